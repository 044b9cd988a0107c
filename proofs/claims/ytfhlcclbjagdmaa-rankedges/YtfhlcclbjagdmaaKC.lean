/- The contracts of Rank1, Ones and Rank0 of ranks. -/
import Derived.Test.YtfhlcclbjagdmaaKB
namespace Go.Proofs.Ytfhlcclbjagdmaa
open Go.RowKit
open M
attribute [local go_sem ↓] Go.wp_at_zero Go.wp_at_succ

theorem bones_ra {w u : World} {b : Nat} {R : RP} {l : List Bool} (x y : Int) (h : RA w b R l u) :
    Calls Try.prog 30 #[.agg #[.int .i64 (R.n : Int), .slice R.a R.m R.c], .int .i64 x, .int .i64 y] u fun e u' => e = .returned (.int .i64 (onesN l x y : Nat)) ∧ RA w b R l u' := by
  have := ones_any _ _ _ l x y u h.rk.row (by rw [h.rk.len]; exact h.rk.small)
  rw [h.rk.len] at this
  exact this.mono fun _ _ hh => ⟨hh.1, h.kept hh.2⟩

theorem ahd_get (l : List Bool) (j : Nat) (h : j ≤ l.length / 256) : (ahd l).getD j 0 = (rkN true l (j * 256) : Int) := by
  unfold ahd
  simp [List.getD_eq_getElem?_getD, show j < l.length / 256 + 1 by omega]
theorem ahd_length (l : List Bool) : (ahd l).length = l.length / 256 + 1 := by simp [ahd]

/-- What Get of the counts tells: the count, and some error. -/
def GetEnd (v : Nat) (P : World → Prop) (e : Ending) (u' : World) : Prop := ∃ er : Int, e = .returned (.tuple #[.int .i64 (v : Int), .int .i64 er]) ∧ P u'

theorem rget_ra {w u : World} {b : Nat} {R : RP} {l : List Bool} (j : Nat) (x : Int) (h : RA w b R l u) (hj : j ≤ R.n / 256) (hx : x = (j : Int)) :
    Calls Try.prog 33 #[.agg #[.int .i64 (R.cn : Int), .int .i64 (R.cW : Int), .int .i64 (R.cL : Int), .slice R.a2 R.m2 R.c2], .int .i64 x] u (GetEnd (rkN true l (j * 256)) (RA w b R l)) := by
  subst hx
  rcases h.rk.cnts with ⟨h0, rfl⟩ | hi
  · refine (iget_out R.cn R.cW R.cL R.a2 R.m2 R.c2 (j : Int) u (by omega)).mono ?_
    rintro e u' ⟨rfl, hb⟩
    exact ⟨13, by simp [rkN], h.kept hb⟩
  · have hlen := h.rk.len
    have hal := hi.len
    rw [ahd_length] at hal
    refine (iget_in R.cn R.cW R.cL R.a2 R.m2 R.c2 (ahd l) j u hi.row hi.len hi.mul hi.lb (by have := hi.hn; omega) hi.hW hi.fit (by omega)).mono ?_
    rintro e u' ⟨rfl, hb⟩
    exact ⟨0, by rw [ahd_get l j (by omega)], h.kept hb⟩

set_option maxHeartbeats 1000000 in
theorem rank1_any (R : RP) (l : List Bool) (i : Int) (w : World) (h : RK w R l) :
    Calls Try.prog 16 #[.agg #[.int .i64 (R.n : Int), .slice R.a R.m R.c, .int .i64 (R.cn : Int), .int .i64 (R.cW : Int), .int .i64 (R.cL : Int), .slice R.a2 R.m2 R.c2], .int .i64 i] w fun e w' => e = .returned (.int .i64 (rk1 l i : Nat)) ∧ Below w.heap.size w w' := by
  have hA := RA.new h
  have hs := h.small
  have hlen := h.len
  have hk := keep_ra i hA
  have hv : rk1 l i = rkN true l (lo R.n i) := by unfold rk1; rw [hlen]
  have ht := lo_le R.n i
  rw [hv]
  clear hv h hA
  generalize lo R.n i = t at *
  have hb1 := rk_block l (t / 256 * 256) t (by omega) (by omega)
  have hb2 := rkN_le true l t
  rw [hlen] at hb2
  have HB := Lib.hid (And.intro hb1 hb2)
  have HK := Lib.hid hk
  clear hb1 hb2 hk hlen
  go_enter Try.func16, Try.ntmps16
  go_wp2_with fail
  refine HK.out.mono ?_
  rintro e u ⟨rfl, hA⟩
  clear HK
  obtain ⟨l0, l1, l2, l3, l4, l5⟩ := hA.box
  have HA := Lib.hid hA
  clear hA
  generalize hbx : w.heap.size = bx at *
  go_wp2_with fail
  clear l0 l1 l2 l3 l4 l5
  refine (rget_ra (t / 256) _ HA.out (by omega) (by omega)).mono ?_
  rintro e u2 ⟨er, rfl, hA⟩
  clear HA
  obtain ⟨l0, l1, l2, l3, l4, l5⟩ := hA.box
  have HA := Lib.hid hA
  clear hA
  generalize hr : rkN true l (t / 256 * 256) = r at *
  clear hr
  go_wp2_with fail
  clear l0 l1 l2 l3 l4 l5
  have e1 : (t : Int) / 256 * 256 = ((t / 256 * 256 : Nat) : Int) := by omega
  rw [e1]
  refine (bones_ra _ _ HA.out).mono ?_
  rintro e u3 ⟨rfl, hA⟩
  have HL := Lib.hid hA.bel
  subst hbx
  have h1 := HB.out.1
  have h2 := HB.out.2
  clear hA HA e1
  generalize onesN l ((t / 256 * 256 : Nat) : Int) (t : Int) = o at *
  clear HB
  have HE := Lib.hid h1
  have h3 : r ≤ R.n := by omega
  have h4 : o ≤ R.n := by omega
  clear h1 h2
  go_wp2
  go_ret
  exact ⟨ret_int (by rw [← HE.out]; go_num), HL.out⟩
theorem rank1_ra {w u : World} {b : Nat} {R : RP} {l : List Bool} (i : Int) (h : RA w b R l u) :
    Calls Try.prog 16 #[.agg #[.int .i64 (R.n : Int), .slice R.a R.m R.c, .int .i64 (R.cn : Int), .int .i64 (R.cW : Int), .int .i64 (R.cL : Int), .slice R.a2 R.m2 R.c2], .int .i64 i] u fun e u' => e = .returned (.int .i64 (rk1 l i : Nat)) ∧ RA w b R l u' :=
  (rank1_any R l i u h.rk).mono fun _ _ hh => ⟨hh.1, h.kept hh.2⟩

set_option maxHeartbeats 1000000 in
theorem rones_any (R : RP) (l : List Bool) (w : World) (h : RK w R l) :
    Calls Try.prog 14 #[.agg #[.int .i64 (R.n : Int), .slice R.a R.m R.c, .int .i64 (R.cn : Int), .int .i64 (R.cW : Int), .int .i64 (R.cL : Int), .slice R.a2 R.m2 R.c2]] w fun e w' => e = .returned (.int .i64 (rkN true l l.length : Nat)) ∧ Below w.heap.size w w' := by
  have hA := RA.new h
  have hlen := h.len
  have hv := fun u (hu : RA w w.heap.size R l u) => rank1_ra (R.n : Int) hu
  rw [rk1_all l R.n hlen] at hv
  rw [hlen]
  have HV := Lib.hid hv
  clear h hv hlen
  generalize rkN true l R.n = z at *
  go_enter Try.func14, Try.ntmps14
  go_wp2
  obtain ⟨l0, l1, l2, l3, l4, l5⟩ := hA.box
  generalize w.alloc (.cells #[.int .i64 (R.n : Int), .slice R.a R.m R.c, .int .i64 (R.cn : Int), .int .i64 (R.cW : Int), .int .i64 (R.cL : Int), .slice R.a2 R.m2 R.c2] 35) = u at *
  generalize hbx : w.heap.size = bx at *
  go_region_held3 (fun w' => w'.cell? ⟨bx, 0, none⟩ = some (.int .i64 (R.n : Int)) ∧ w'.cell? ⟨bx, 1, none⟩ = some (.slice R.a R.m R.c) ∧ w'.cell? ⟨bx, 2, none⟩ = some (.int .i64 (R.cn : Int)) ∧ w'.cell? ⟨bx, 3, none⟩ = some (.int .i64 (R.cW : Int)) ∧ w'.cell? ⟨bx, 4, none⟩ = some (.int .i64 (R.cL : Int)) ∧ w'.cell? ⟨bx, 5, none⟩ = some (.slice R.a2 R.m2 R.c2))
    (first
      | go_keep
      | exact ⟨hA.box.c0, hA.box.c1, hA.box.c2, hA.box.c3, hA.box.c4, hA.box.c5⟩)
    (first
      | (go_at_call 13; (with_reducible refine (rlen_ra hA).mono ?_); rintro e u ⟨rfl, hA⟩)
      | (go_at_call 13; (with_reducible refine (rlen_ra hA.drew).mono ?_); rintro e u ⟨rfl, hA⟩)
      | (go_at_call 16; (with_reducible refine (HV.out _ hA).mono ?_); rintro e u ⟨rfl, hA⟩))
  all_goals
    have HB := Lib.hid hA.bel
    subst hbx
    clear hA
    go_wp2
    go_ret
    exact ⟨rfl, HB.out⟩
theorem rones_ra {w u : World} {b : Nat} {R : RP} {l : List Bool} (h : RA w b R l u) :
    Calls Try.prog 14 #[.agg #[.int .i64 (R.n : Int), .slice R.a R.m R.c, .int .i64 (R.cn : Int), .int .i64 (R.cW : Int), .int .i64 (R.cL : Int), .slice R.a2 R.m2 R.c2]] u fun e u' => e = .returned (.int .i64 (rkN true l l.length : Nat)) ∧ RA w b R l u' :=
  (rones_any R l u h.rk).mono fun _ _ hh => ⟨hh.1, h.kept hh.2⟩

set_option maxHeartbeats 1000000 in
theorem rank0_any (R : RP) (l : List Bool) (i : Int) (w : World) (h : RK w R l) :
    Calls Try.prog 17 #[.agg #[.int .i64 (R.n : Int), .slice R.a R.m R.c, .int .i64 (R.cn : Int), .int .i64 (R.cW : Int), .int .i64 (R.cL : Int), .slice R.a2 R.m2 R.c2], .int .i64 i] w fun e w' => e = .returned (.int .i64 (rk0 l i : Nat)) ∧ Below w.heap.size w w' := by
  have hA := RA.new h
  have hs := h.small
  have hlen := h.len
  have hb := rk_both l i
  rw [hlen] at hb
  have hk := fun u (hu : RA w w.heap.size R l u) => keep_ra i hu
  have hr := fun u (hu : RA w w.heap.size R l u) => rank1_ra i hu
  have ht := lo_le R.n i
  have hle : rk1 l i ≤ lo R.n i := by omega
  have HK := Lib.hid hk
  have HR := Lib.hid hr
  clear h hlen hk hr
  generalize lo R.n i = t at *
  generalize rk1 l i = y at *
  generalize rk0 l i = z at *
  obtain rfl : z = t - y := by omega
  clear hb
  have q1 : IntKind.i64.wrap ((t : Int) - (y : Int)) = (t : Int) - (y : Int) := IntWalk.i64_in _ (by omega)
  go_enter Try.func17, Try.ntmps17
  go_wp2
  obtain ⟨l0, l1, l2, l3, l4, l5⟩ := hA.box
  generalize w.alloc (.cells #[.int .i64 (R.n : Int), .slice R.a R.m R.c, .int .i64 (R.cn : Int), .int .i64 (R.cW : Int), .int .i64 (R.cL : Int), .slice R.a2 R.m2 R.c2] 35) = u at *
  generalize hbx : w.heap.size = bx at *
  go_region_held3 (fun w' => w'.cell? ⟨bx, 0, none⟩ = some (.int .i64 (R.n : Int)) ∧ w'.cell? ⟨bx, 1, none⟩ = some (.slice R.a R.m R.c) ∧ w'.cell? ⟨bx, 2, none⟩ = some (.int .i64 (R.cn : Int)) ∧ w'.cell? ⟨bx, 3, none⟩ = some (.int .i64 (R.cW : Int)) ∧ w'.cell? ⟨bx, 4, none⟩ = some (.int .i64 (R.cL : Int)) ∧ w'.cell? ⟨bx, 5, none⟩ = some (.slice R.a2 R.m2 R.c2))
    (first
      | go_keep
      | exact ⟨hA.box.c0, hA.box.c1, hA.box.c2, hA.box.c3, hA.box.c4, hA.box.c5⟩)
    (first
      | (go_at_call 32; (with_reducible refine (HK.out _ hA).mono ?_); rintro e u ⟨rfl, hA⟩)
      | (go_at_call 32; (with_reducible refine (HK.out _ hA.drew).mono ?_); rintro e u ⟨rfl, hA⟩)
      | (go_at_call 16; (with_reducible refine (HR.out _ hA).mono ?_); rintro e u ⟨rfl, hA⟩)
      | (go_at_call 16; (with_reducible refine (HR.out _ hA.drew).mono ?_); rintro e u ⟨rfl, hA⟩))
  all_goals
    have HB := Lib.hid hA.bel
    subst hbx
    clear hA q1
    go_wp2
    go_ret
    exact ⟨ret_int (by omega), HB.out⟩
theorem rank0_ra {w u : World} {b : Nat} {R : RP} {l : List Bool} (i : Int) (h : RA w b R l u) :
    Calls Try.prog 17 #[.agg #[.int .i64 (R.n : Int), .slice R.a R.m R.c, .int .i64 (R.cn : Int), .int .i64 (R.cW : Int), .int .i64 (R.cL : Int), .slice R.a2 R.m2 R.c2], .int .i64 i] u fun e u' => e = .returned (.int .i64 (rk0 l i : Nat)) ∧ RA w b R l u' :=
  (rank0_any R l i u h.rk).mono fun _ _ hh => ⟨hh.1, h.kept hh.2⟩

end Go.Proofs.Ytfhlcclbjagdmaa

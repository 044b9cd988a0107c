/- The contracts of Count and begin. -/
import Derived.Test.YtpnjccomngdblaaGreatZD
set_option maxRecDepth 100000
namespace Go.Proofs.YtpnjccomngdblaaGreat
open Go.RowKit
open M
attribute [local go_sem ↓] Go.wp_at_zero Go.wp_at_succ

variable {w u : World} {b : Nat} {F : FQ} {l : List Int} {size : Nat}

set_option maxHeartbeats 1000000 in
theorem count_any (h : FMI u F l size) (A : Option Addr) (np cp : Nat) (p : List Int) (hP : NumsAt .i64 u A p) (hp : p.length = np) (hnp : np ≤ 1000000) :
    Calls Tryz.prog 50 #[.agg #[.int .i64 (F.N : Int), .int .i64 F.Z, .slice F.wa F.wW F.wc, .int .i64 (F.R.n : Int), .slice F.R.a F.R.m F.R.c, .int .i64 (F.R.cn : Int), .int .i64 (F.R.cW : Int), .int .i64 (F.R.cL : Int), .slice F.R.a2 F.R.m2 F.R.c2, .int .i64 (F.S.n : Int), .int .i64 (F.S.W : Int), .int .i64 (F.S.L : Int), .slice F.S.a F.S.m F.S.c, .int .i64 (F.P.n : Int), .int .i64 (F.P.W : Int), .int .i64 (F.P.L : Int), .slice F.P.a F.P.m F.P.c], .slice A np cp] u fun e u' => e = .returned (.int .i64 ((frN l true p - frN l false p : Nat) : Int)) ∧ Below u.heap.size u u' := by
  have hA := MX.new h
  have hr := range_any (hA.fm) A np cp p (hP.kept hA.bel) hp hnp
  have hmo := frN_mono l p
  have hle := frN_le l true p
  have hl := h.len
  obtain ⟨f, hf⟩ : ∃ f, frN l false p = f := ⟨_, rfl⟩
  obtain ⟨t, ht⟩ : ∃ t, frN l true p = t := ⟨_, rfl⟩
  rw [hf, ht] at hr hmo ⊢
  rw [ht] at hle
  obtain ⟨z, hz⟩ : ∃ z, t - f = z := ⟨_, rfl⟩
  have q1 : IntKind.i64.wrap ((t : Int) - (f : Int)) = (z : Int) := by rw [show (t : Int) - (f : Int) = (z : Int) by omega]; exact IntWalk.i64_in _ (by omega)
  rw [hz]
  have HR := Lib.hid (And.intro hr (And.intro hA.bel hA.box))
  clear h hP hp hnp hA hr hmo hle hl hf ht hz
  go_enter Tryz.func50, Tryz.ntmps50
  go_wp2_with (refine load36 HR.out.2.2 _ rfl rfl rfl ?_)
  (with_reducible refine HR.out.1.mono ?_)
  rintro e u1 ⟨rfl, hb⟩
  have HB := Lib.hid (HR.out.2.1.trans (hb.mono HR.out.2.1.size))
  clear hb
  go_wp2
  go_ret
  exact ⟨rfl, HB.out⟩

theorem one_mx (j : Nat) (h : MX w b F l size u) (hj : j ≤ l.length) : Calls Tryz.prog 84 #[.agg #[.int .i64 (F.R.n : Int), .slice F.R.a F.R.m F.R.c, .int .i64 (F.R.cn : Int), .int .i64 (F.R.cW : Int), .int .i64 (F.R.cL : Int), .slice F.R.a2 F.R.m2 F.R.c2], .int .i64 (j : Int)] u fun e u' => e = .returned (.int .i64 (if mkB l.length (plA l j) = true then 1 else 0)) ∧ MX w b F l size u' :=
  (rone_any F.R (mkL l) (j : Int) u h.fm.rk).mono fun _ _ hh => ⟨by
    rw [hh.1]
    unfold oneI
    have e : getB (mkL l) (j : Int) = mkB l.length (plA l j) := by rw [← mkL_at l hj]; unfold getB; rw [Int.toNat_natCast]; first | rfl | (rw [decide_eq_true (by omega)]; simp)
    rw [e], h.kept hh.2⟩
theorem rank_mx (j : Nat) (h : MX w b F l size u) (hj : j ≤ l.length) : Calls Tryz.prog 88 #[.agg #[.int .i64 (F.R.n : Int), .slice F.R.a F.R.m F.R.c, .int .i64 (F.R.cn : Int), .int .i64 (F.R.cW : Int), .int .i64 (F.R.cL : Int), .slice F.R.a2 F.R.m2 F.R.c2], .int .i64 (j : Int)] u fun e u' => e = .returned (.int .i64 (rkN true (mkL l) j : Nat)) ∧ MX w b F l size u' :=
  (rank1_any F.R (mkL l) (j : Int) u h.fm.rk).mono fun _ _ hh => ⟨by rw [hh.1, rk1_at _ _ (by rw [mkL_len]; omega)], h.kept hh.2⟩
theorem smp_mx (i : Int) (h : MX w b F l size u) : Calls Tryz.prog 41 #[.agg #[.int .i64 (F.S.n : Int), .int .i64 (F.S.W : Int), .int .i64 (F.S.L : Int), .slice F.S.a F.S.m F.S.c], .int .i64 i] u fun e u' => e = .returned (.int .i64 (atI (smL l) i)) ∧ MX w b F l size u' :=
  (iat_any F.S.n F.S.W F.S.L F.S.a F.S.m F.S.c (smL l) i u h.fm.smp).mono fun _ _ hh => ⟨hh.1, h.kept hh.2⟩
theorem plc_mx (i : Int) (h : MX w b F l size u) : Calls Tryz.prog 41 #[.agg #[.int .i64 (F.P.n : Int), .int .i64 (F.P.W : Int), .int .i64 (F.P.L : Int), .slice F.P.a F.P.m F.P.c], .int .i64 i] u fun e u' => e = .returned (.int .i64 (atI (pcL l) i)) ∧ MX w b F l size u' :=
  (iat_any F.P.n F.P.W F.P.L F.P.a F.P.m F.P.c (pcL l) i u h.fm.plc).mono fun _ _ hh => ⟨hh.1, h.kept hh.2⟩
theorem ahead_mx (q : Nat) (x : Int) (hx : x = l.getD q 0 + 1) (hq : q < l.length) (h : MX w b F l size u) : Calls Tryz.prog 42 #[.agg #[.int .i64 (F.N : Int), .int .i64 F.Z, .slice F.wa F.wW F.wc, .int .i64 (F.R.n : Int), .slice F.R.a F.R.m F.R.c, .int .i64 (F.R.cn : Int), .int .i64 (F.R.cW : Int), .int .i64 (F.R.cL : Int), .slice F.R.a2 F.R.m2 F.R.c2, .int .i64 (F.S.n : Int), .int .i64 (F.S.W : Int), .int .i64 (F.S.L : Int), .slice F.S.a F.S.m F.S.c, .int .i64 (F.P.n : Int), .int .i64 (F.P.W : Int), .int .i64 (F.P.L : Int), .slice F.P.a F.P.m F.P.c], .int .i64 x, .int .i64 (plR l (q + 1) : Nat)] u fun e u' => e = .returned (.int .i64 (plR l q : Nat)) ∧ MX w b F l size u' := by
  have hc := h.fm.sy _ (getD_mem (b := 0) hq)
  have h1 := plR_ok h.fm.i64 h.fm.nn (p := q + 1) (by omega)
  have := ahead_any h.fm (l.getD q 0) x hx hc.1 hc.2 (plR l (q + 1)) (by rw [h.fm.N]; omega)
  rw [lf_suf h.fm.i64 h.fm.nn hq] at this
  exact this.mono fun _ _ hh => ⟨hh.1, h.kept hh.2⟩

set_option maxHeartbeats 4000000 in
theorem begin_any (h : FMI u F l size) (j : Nat) (hj : j ≤ l.length) : Calls Tryz.prog 64 #[.agg #[.int .i64 (F.N : Int), .int .i64 F.Z, .slice F.wa F.wW F.wc, .int .i64 (F.R.n : Int), .slice F.R.a F.R.m F.R.c, .int .i64 (F.R.cn : Int), .int .i64 (F.R.cW : Int), .int .i64 (F.R.cL : Int), .slice F.R.a2 F.R.m2 F.R.c2, .int .i64 (F.S.n : Int), .int .i64 (F.S.W : Int), .int .i64 (F.S.L : Int), .slice F.S.a F.S.m F.S.c, .int .i64 (F.P.n : Int), .int .i64 (F.P.W : Int), .int .i64 (F.P.L : Int), .slice F.P.a F.P.m F.P.c], .int .i64 (j : Int)] u fun e u' => e = .returned (.int .i64 (plA l j : Nat)) ∧ Below u.heap.size u u' := by
  have hA := MX.new h
  have hnn := h.nn
  have h64 := h.i64
  have hl := h.len
  have hq := (allA_at h64 hnn hj).2
  have hr := plR_plA h64 hnn hj
  obtain ⟨q, hqe⟩ : ∃ q, plA l j = q := ⟨_, rfl⟩
  rw [hqe] at hq hr ⊢
  rw [← hr]
  have HX := Lib.hid (And.intro hnn h64)
  have HA := Lib.hid hA
  clear h hnn h64 hA hr hqe hj
  go_enter Tryz.func64, Tryz.ntmps64
  go_wp2
  obtain ⟨w0, hw0⟩ : ∃ w0, u.alloc (.cells #[.int .i64 (F.N : Int), .int .i64 F.Z, .slice F.wa F.wW F.wc, .int .i64 (F.R.n : Int), .slice F.R.a F.R.m F.R.c, .int .i64 (F.R.cn : Int), .int .i64 (F.R.cW : Int), .int .i64 (F.R.cL : Int), .slice F.R.a2 F.R.m2 F.R.c2, .int .i64 (F.S.n : Int), .int .i64 (F.S.W : Int), .int .i64 (F.S.L : Int), .slice F.S.a F.S.m F.S.c, .int .i64 (F.P.n : Int), .int .i64 (F.P.W : Int), .int .i64 (F.P.L : Int), .slice F.P.a F.P.m F.P.c] 37) = w0 := ⟨_, rfl⟩
  obtain ⟨bx, hbx⟩ : ∃ bx, u.heap.size = bx := ⟨_, rfl⟩
  rw [hw0, hbx] at HA
  simp only [hw0, hbx]
  clear hw0
  have HBX := Lib.hid hbx
  clear hbx
  go_loopw [1, 5] (fun v1 v5 wr => ∃ k : Nat, k ≤ q ∧ v5 = .int .i64 (k : Int) ∧ v1 = .int .i64 (plR l (q - k) : Nat) ∧ MX u bx F l size wr) (fun _ v5 _ => q - (intOf v5).toNat)
  case atStart => exact ⟨0, Nat.zero_le _, rfl, rfl, HA.out⟩
  case round =>
    obtain ⟨k, hk, rfl, rfl, hA⟩ := hrel
    clear HA
    obtain ⟨p, hp⟩ : ∃ p, q - k = p := ⟨_, rfl⟩
    have hpl := plR_ok HX.out.2 HX.out.1 (p := p) (by omega)
    have HA := Lib.hid hA
    have x3 := hA.box.c3
    have x4 := hA.box.c4
    have x5 := hA.box.c5
    have x6 := hA.box.c6
    have x7 := hA.box.c7
    have x8 := hA.box.c8
    have hone := fun (u' : World) (hu : MX u bx F l size u') => one_mx (plR l p) hu hpl.1
    rw [hpl.2] at hone
    rw [hp]
    obtain ⟨r, hrr⟩ : ∃ r, plR l p = r := ⟨_, rfl⟩
    rw [hrr] at hone hpl ⊢
    cases hm : mkB l.length p with
    | true =>
      rw [hm, if_pos rfl] at hone
      have hsm := smL_at l hpl.1 (by rw [hpl.2]; exact hm)
      have hrk := fun (u' : World) (hu : MX u bx F l size u') => rank_mx r hu hpl.1
      have hat := fun (u' : World) (hu : MX u bx F l size u') => smp_mx ((rkN true (mkL l) r : Nat) : Int) hu
      rw [atI_in _ _ hsm.1, hsm.2, hpl.2] at hat
      obtain ⟨t, ht⟩ : ∃ t, rkN true (mkL l) r = t := ⟨_, rfl⟩
      rw [ht] at hrk hat
      have HC := Lib.hid (And.intro hone (And.intro hrk hat))
      have q1 : IntKind.i64.wrap ((p : Int) + (k : Int)) = (q : Int) := by rw [show (p : Int) + (k : Int) = (q : Int) by omega]; exact IntWalk.i64_in _ (by omega)
      clear hone hrk hat hsm hpl hm ht hrr hA hp
      go_wp2_with fail
      (with_reducible refine (HC.out.1 _ HA.out).mono ?_)
      clear x3 x4 x5 x6 x7 x8 HA
      rintro e u2 ⟨rfl, hA⟩
      go_wp2
      obtain ⟨x0, x1, x2, x3, x4, x5, x6, x7, x8, x9, x10, x11, x12, -⟩ := hA.box.cells
      go_region_held3 (fun w' => w'.cell? ⟨bx, 3, none⟩ = some (.int .i64 (F.R.n : Int)) ∧ w'.cell? ⟨bx, 4, none⟩ = some (.slice F.R.a F.R.m F.R.c) ∧ w'.cell? ⟨bx, 5, none⟩ = some (.int .i64 (F.R.cn : Int)) ∧ w'.cell? ⟨bx, 6, none⟩ = some (.int .i64 (F.R.cW : Int)) ∧ w'.cell? ⟨bx, 7, none⟩ = some (.int .i64 (F.R.cL : Int)) ∧ w'.cell? ⟨bx, 8, none⟩ = some (.slice F.R.a2 F.R.m2 F.R.c2) ∧ w'.cell? ⟨bx, 9, none⟩ = some (.int .i64 (F.S.n : Int)) ∧ w'.cell? ⟨bx, 10, none⟩ = some (.int .i64 (F.S.W : Int)) ∧ w'.cell? ⟨bx, 11, none⟩ = some (.int .i64 (F.S.L : Int)) ∧ w'.cell? ⟨bx, 12, none⟩ = some (.slice F.S.a F.S.m F.S.c))
        (first
          | go_keep
          | exact ⟨hA.box.c3, hA.box.c4, hA.box.c5, hA.box.c6, hA.box.c7, hA.box.c8, hA.box.c9, hA.box.c10, hA.box.c11, hA.box.c12⟩)
        (first
          | (go_at_call 88; (with_reducible refine (HC.out.2.1 _ hA).mono ?_); rintro e u ⟨rfl, hA⟩)
          | (go_at_call 88; (with_reducible refine (HC.out.2.1 _ hA.drew).mono ?_); rintro e u ⟨rfl, hA⟩)
          | (go_at_call 41; (with_reducible refine (HC.out.2.2 _ hA).mono ?_); rintro e u ⟨rfl, hA⟩)
          | (go_at_call 41; (with_reducible refine (HC.out.2.2 _ hA.drew).mono ?_); rintro e u ⟨rfl, hA⟩))
      all_goals
        have HB := Lib.hid hA.bel
        clear hA
        go_wp2
        go_ret
        exact ⟨rfl, HB.out⟩
    | false =>
      rw [hm, if_neg (by decide)] at hone
      have hp0 : p ≠ 0 := fun e => by
        rw [e] at hm
        simp [mkB] at hm
      have hpn : p ≠ l.length := fun e => by
        rw [e] at hm
        simp [mkB] at hm
      obtain ⟨o, rfl⟩ : ∃ o, p = o + 1 := ⟨p - 1, by omega⟩
      have hat := fun (u' : World) (hu : MX u bx F l size u') => at_mx r hpl.1 hu
      have htr := turn_R HX.out.2 HX.out.1 (q := o + 1) (by omega)
      rw [hrr, if_neg (by omega), Nat.add_sub_cancel] at htr
      rw [htr] at hat
      obtain ⟨x, hx⟩ : ∃ x, l.getD o 0 + 1 = x := ⟨_, rfl⟩
      have hah := fun (u' : World) (hu : MX u bx F l size u') => ahead_mx o x hx.symm (by omega) hu
      rw [hrr] at hah
      rw [hx] at hat
      obtain ⟨s, hs⟩ : ∃ s, plR l o = s := ⟨_, rfl⟩
      rw [hs] at hah
      have HC := Lib.hid (And.intro hone (And.intro hat (And.intro hah hs)))
      have hoq : q - (k + 1) = o := by omega
      have HO := Lib.hid hoq
      have hk1 : k + 1 ≤ q := by omega
      clear hone hat hah hpl hm hrr hA hp htr hx hs hoq
      go_wp2_with fail
      (with_reducible refine (HC.out.1 _ HA.out).mono ?_)
      clear x3 x4 x5 x6 x7 x8 HA
      rintro e u2 ⟨rfl, hA⟩
      go_wp2
      obtain ⟨x0, x1, x2, -⟩ := hA.box.cells
      try simp only [List.append_eq, List.cons_append, List.nil_append]
      refine wp_region_held_drew (S := fun w' => MX u bx F l size w') (by kernel_rfl) (hA.drew) (fun hHeld => ?_)
      replace hA := hA.drew
      refine wpAnyH_take (i := 0) (oi := ⟨some 11, _, _, _, _, _⟩) rfl (by kernel_rfl) (by kernel_rfl) (by kernel_rfl) (fun _ _ _ h => h) (yieldsIf_load_mid (by kernel_rfl) 37 _ rfl _ 0 rfl [.int .i64 (F.N : Int), .int .i64 F.Z, .slice F.wa F.wW F.wc, .int .i64 (F.R.n : Int), .slice F.R.a F.R.m F.R.c, .int .i64 (F.R.cn : Int), .int .i64 (F.R.cW : Int), .int .i64 (F.R.cL : Int), .slice F.R.a2 F.R.m2 F.R.c2, .int .i64 (F.S.n : Int), .int .i64 (F.S.W : Int), .int .i64 (F.S.L : Int), .slice F.S.a F.S.m F.S.c, .int .i64 (F.P.n : Int), .int .i64 (F.P.W : Int), .int .i64 (F.P.L : Int), .slice F.P.a F.P.m F.P.c] _ (fun w hw => MBx.range (MX.box hw)) Tryz.underlying37 rfl (by kernel_rfl)) (by assumption) ?_
      try simp only [Act.put, List.setIfInBounds_toArray, List.set_cons_zero, List.set_cons_succ]
      refine wpAnyH_take (i := 1) (oi := ⟨some 12, _, _, _, _, _⟩) (v := ?_) rfl (by kernel_rfl) (by kernel_rfl) (by kernel_rfl) (fun _ _ _ h => h) (Or.inl ⟨by kernel_rfl, ?_⟩) (by assumption) ?_
      case refine_2 => (intro w hSw; go_simp; try (with_reducible rfl))
      try simp only [Act.put, List.setIfInBounds_toArray, List.set_cons_zero, List.set_cons_succ]
      refine wpAnyH_take (i := 2) (oi := ⟨some 13, _, _, _, _, _⟩) (v := ?_) rfl (by kernel_rfl) (by kernel_rfl) (by kernel_rfl) (fun _ _ _ h => h) (Or.inl ⟨by kernel_rfl, ?_⟩) (by assumption) ?_
      case refine_2 => (intro w hSw; obtain ⟨x0, x1, x2, x3, x4, x5, x6, x7, x8, x9, x10, x11, x12, x13, x14, x15, x16⟩ := (MX.box hSw).cells; go_simp; try (with_reducible rfl))
      try simp only [Act.put, List.setIfInBounds_toArray, List.set_cons_zero, List.set_cons_succ]
      refine wpAnyH_take (i := 3) (oi := ⟨some 14, _, _, _, _, _⟩) (v := ?_) rfl (by kernel_rfl) (by kernel_rfl) (by kernel_rfl) (fun _ _ _ h => h) (Or.inl ⟨by kernel_rfl, ?_⟩) (by assumption) ?_
      case refine_2 => (intro w hSw; go_simp; try (with_reducible rfl))
      try simp only [Act.put, List.setIfInBounds_toArray, List.set_cons_zero, List.set_cons_succ]
      refine wpAnyH_take (i := 5) (oi := ⟨some 16, _, _, _, _, _⟩) (v := ?_) rfl (by kernel_rfl) (by kernel_rfl) (by kernel_rfl) (fun _ _ _ h => h) (Or.inl ⟨by kernel_rfl, ?_⟩) (by assumption) ?_
      case refine_2 => (intro w hSw; go_simp; try (with_reducible rfl))
      try simp only [Act.put, List.setIfInBounds_toArray, List.set_cons_zero, List.set_cons_succ]
      refine wpAnyH_ready (rs := [4]) (by kernel_rfl) (by simp) ?_
      refine AllReadyH.cons rfl (fun K hK => ?_) AllReadyH.nil
      go_simp
      (with_reducible refine (HC.out.2.1 _ hA).mono ?_)
      rintro e u ⟨rfl, hA'⟩
      replace hA := hA'
      clear hA'
      clear hHeld
      refine hK.out _ _ (hA) (fun hHeld => ?_)
      clear hK K
      try simp only [Act.put, List.setIfInBounds_toArray, List.set_cons_zero, List.set_cons_succ]
      refine wpAnyH_ready (rs := [6]) (by kernel_rfl) (by simp) ?_
      refine AllReadyH.cons rfl (fun K hK => ?_) AllReadyH.nil
      go_simp
      (with_reducible refine (HC.out.2.2.1 _ hA).mono ?_)
      rintro e u ⟨rfl, hA'⟩
      replace hA := hA'
      clear hA'
      clear hHeld
      refine hK.out _ _ (hA) (fun hHeld => ?_)
      clear hK K
      try simp only [Act.put, List.setIfInBounds_toArray, List.set_cons_zero, List.set_cons_succ]
      refine wpAnyH_take (i := 7) (oi := ⟨some 1, _, _, _, _, _⟩) (v := ?_) rfl (by kernel_rfl) (by kernel_rfl) (by kernel_rfl) (fun _ _ _ h => h) (Or.inl ⟨by kernel_rfl, ?_⟩) (by assumption) ?_
      case refine_2 => (intro w hSw; go_simp; try (with_reducible rfl))
      try simp only [Act.put, List.setIfInBounds_toArray, List.set_cons_zero, List.set_cons_succ]
      refine wpAnyH_done (by kernel_rfl) ?_ _
      clear hHeld
      have HB := Lib.hid hA
      clear hA
      go_wp2
      go_roundw
      case rel => exact ⟨k + 1, by omega, by go_num, by rw [HO.out, HC.out.2.2.2], HB.out⟩
      case measure => first | (simp [intOf]; done) | (simp [intOf]; omega)

end Go.Proofs.YtpnjccomngdblaaGreat

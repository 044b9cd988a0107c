/- The contracts of isEnded and Load. -/
import Derived.Test.YtpnjccomngdblaaGreatVW
set_option maxRecDepth 100000
namespace Go.Proofs.YtpnjccomngdblaaGreat
open Go.RowKit
open M
attribute [local go_sem ↓] Go.wp_at_zero Go.wp_at_succ

variable {w u w' : World} {b c : Nat} {F : FQ} {E : Option Addr} {ss : List ByteArray} {l : List Int} {s : Nat}
theorem exL_last (l : List Int) (h : 0 < l.length) : (exL l ((l.length - 1 : Nat) : Int) 1).length = 1 ∧ (exL l ((l.length - 1 : Nat) : Int) 1).getD 0 0 = l.getD (l.length - 1) 0 := by
  have hlo := lo_at l.length (l.length - 1) (by omega)
  have h1 : (exL l ((l.length - 1 : Nat) : Int) 1).length = 1 := by rw [exL_len, hlo, show (1 : Int).toNat = 1 from rfl]; omega
  exact ⟨h1, by rw [exL_at l _ 1 (l.length - 1) 1 0 hlo h1 (by omega), Nat.add_zero]⟩
theorem last_mx (h : MX w b F l s u) (h0 : 0 < l.length) : Calls Tryz.prog 20 #[.agg #[.int .i64 (F.N : Int), .int .i64 F.Z, .slice F.wa F.wW F.wc, .int .i64 (F.R.n : Int), .slice F.R.a F.R.m F.R.c, .int .i64 (F.R.cn : Int), .int .i64 (F.R.cW : Int), .int .i64 (F.R.cL : Int), .slice F.R.a2 F.R.m2 F.R.c2, .int .i64 (F.S.n : Int), .int .i64 (F.S.W : Int), .int .i64 (F.S.L : Int), .slice F.S.a F.S.m F.S.c, .int .i64 (F.P.n : Int), .int .i64 (F.P.W : Int), .int .i64 (F.P.L : Int), .slice F.P.a F.P.m F.P.c], .int .i64 ((l.length - 1 : Nat) : Int), .int .i64 1] u fun e u' => ∃ D, e = .returned (.slice (some ⟨D, 0, none⟩) 1 1) ∧ u'.cell? ⟨D, 0, none⟩ = some (.int .i64 (l.getD (l.length - 1) 0)) ∧ MX w b F l s u' := by
  obtain ⟨h1, h2⟩ := exL_last l h0
  refine (extract_mx h ((l.length - 1 : Nat) : Int) 1 (by omega) (by omega)).mono ?_
  rintro e u' ⟨D, rfl, hN, -, hM⟩
  rw [h1]
  refine ⟨D, rfl, ?_, hM⟩
  rcases hN with e | ⟨b', o', e, _, hc⟩
  · rw [e] at h1; simp at h1
  · simp only [Option.some.injEq, Addr.mk.injEq, and_true] at e
    obtain ⟨rfl, rfl⟩ := e
    have := hc 0 (by omega)
    rw [h2] at this
    exact this
set_option linter.unusedSimpArgs false in
set_option maxHeartbeats 4000000 in
theorem ended_none (h : FMI w F l s) (h0 : l.length = 0) : Calls Tryz.prog 57 #[.agg #[.int .i64 (F.N : Int), .int .i64 F.Z, .slice F.wa F.wW F.wc, .int .i64 (F.R.n : Int), .slice F.R.a F.R.m F.R.c, .int .i64 (F.R.cn : Int), .int .i64 (F.R.cW : Int), .int .i64 (F.R.cL : Int), .slice F.R.a2 F.R.m2 F.R.c2, .int .i64 (F.S.n : Int), .int .i64 (F.S.W : Int), .int .i64 (F.S.L : Int), .slice F.S.a F.S.m F.S.c, .int .i64 (F.P.n : Int), .int .i64 (F.P.W : Int), .int .i64 (F.P.L : Int), .slice F.P.a F.P.m F.P.c]] w fun e u' => e = .returned (.bool true) ∧ Below w.heap.size w u' := by
  have hA := MX.new h
  have hfl := fun (u : World) (hu : MX w w.heap.size F l s u) => flen_mx hu
  simp only [h0] at hfl
  have HC := Lib.hid hfl
  clear hfl h h0
  have hund : undef = Value.tuple #[] := rfl
  go_enter Tryz.func57, Tryz.ntmps57
  go_upto_region 1 with fail
  obtain ⟨w1, hw1⟩ : ∃ w1, w.alloc (.cells #[.int .i64 (F.N : Int), .int .i64 F.Z, .slice F.wa F.wW F.wc, .int .i64 (F.R.n : Int), .slice F.R.a F.R.m F.R.c, .int .i64 (F.R.cn : Int), .int .i64 (F.R.cW : Int), .int .i64 (F.R.cL : Int), .slice F.R.a2 F.R.m2 F.R.c2, .int .i64 (F.S.n : Int), .int .i64 (F.S.W : Int), .int .i64 (F.S.L : Int), .slice F.S.a F.S.m F.S.c, .int .i64 (F.P.n : Int), .int .i64 (F.P.W : Int), .int .i64 (F.P.L : Int), .slice F.P.a F.P.m F.P.c] 37) = w1 := ⟨_, rfl⟩
  obtain ⟨bx, hbx⟩ : ∃ bx, w.heap.size = bx := ⟨_, rfl⟩
  rw [hw1, hbx] at hA
  rw [hbx] at HC
  simp only [hw1, hbx]
  clear hw1
  try simp only [List.append_eq, List.cons_append, List.nil_append]
  refine wp_region_held_drew (S := fun w' => MX w bx F l s w') (by kernel_rfl) (hA.drew) (fun hHeld => ?_)
  replace hA := hA.drew
  refine wpAnyH_take (i := 0) (oi := ⟨some 3, _, _, _, _, _⟩) rfl (by kernel_rfl) (by kernel_rfl) (by kernel_rfl) (fun _ _ _ h => h) (yieldsIf_load_mid (by kernel_rfl) 37 _ rfl _ 0 rfl _ _ (fun w hw => MBx.range (MX.box hw)) Tryz.underlying37 rfl (by kernel_rfl)) (by assumption) ?_
  try simp only [Act.put, List.setIfInBounds_toArray, List.set_cons_zero, List.set_cons_succ]
  refine wpAnyH_ready (rs := [1]) (by kernel_rfl) (by simp) ?_
  refine AllReadyH.cons rfl (fun K hK => ?_) AllReadyH.nil
  go_simp
  (with_reducible refine (HC.out _ hA).mono ?_)
  rintro e u ⟨rfl, hA'⟩
  replace hA := hA'
  clear hA'
  clear hHeld
  refine hK.out _ _ (hA) (fun hHeld => ?_)
  clear hK K
  try simp only [Act.put, List.setIfInBounds_toArray, List.set_cons_zero, List.set_cons_succ]
  refine wpAnyH_take (i := 2) (oi := ⟨some 5, _, _, _, _, _⟩) (v := ?_) rfl (by kernel_rfl) (by kernel_rfl) (by kernel_rfl) (fun _ _ _ h => h) (Or.inl ⟨by kernel_rfl, ?_⟩) (by assumption) ?_
  case refine_2 => (intro w hSw; go_simp; try (with_reducible rfl))
  try simp only [Act.put, List.setIfInBounds_toArray, List.set_cons_zero, List.set_cons_succ]
  refine wpAnyH_take (i := 3) (oi := ⟨some 6, _, _, _, _, _⟩) (v := ?_) rfl (by kernel_rfl) (by kernel_rfl) (by kernel_rfl) (fun _ _ _ h => h) (Or.inl ⟨by kernel_rfl, ?_⟩) (by assumption) ?_
  case refine_2 => (intro w hSw; go_simp; try (with_reducible rfl))
  try simp only [Act.put, List.setIfInBounds_toArray, List.set_cons_zero, List.set_cons_succ]
  refine wpAnyH_take (i := 4) (oi := ⟨some 7, _, _, _, _, _⟩) (v := undef) rfl (by kernel_rfl) (by kernel_rfl) (by kernel_rfl) (fun _ _ _ h => h) (Or.inr ⟨by kernel_rfl, rfl⟩) (by assumption) ?_
  try simp only [Act.put, List.setIfInBounds_toArray, List.set_cons_zero, List.set_cons_succ]
  refine wpAnyH_take (i := 5) (oi := ⟨some 8, _, _, _, _, _⟩) (v := undef) rfl (by kernel_rfl) (by kernel_rfl) (by kernel_rfl) (fun _ _ _ h => h) (Or.inr ⟨by kernel_rfl, rfl⟩) (by assumption) ?_
  try simp only [Act.put, List.setIfInBounds_toArray, List.set_cons_zero, List.set_cons_succ]
  refine wpAnyH_take (i := 6) (oi := ⟨some 9, _, _, _, _, _⟩) (v := undef) rfl (by kernel_rfl) (by kernel_rfl) (by kernel_rfl) (fun _ _ _ h => h) (Or.inr ⟨by kernel_rfl, rfl⟩) (by assumption) ?_
  try simp only [Act.put, List.setIfInBounds_toArray, List.set_cons_zero, List.set_cons_succ]
  refine wpAnyH_take (i := 7) (oi := ⟨some 10, _, _, _, _, _⟩) (v := undef) rfl (by kernel_rfl) (by kernel_rfl) (by kernel_rfl) (fun _ _ _ h => h) (Or.inr ⟨by kernel_rfl, rfl⟩) (by assumption) ?_
  try simp only [Act.put, List.setIfInBounds_toArray, List.set_cons_zero, List.set_cons_succ]
  refine wpAnyH_take (i := 8) (oi := ⟨some 11, _, _, _, _, _⟩) (v := undef) rfl (by kernel_rfl) (by kernel_rfl) (by kernel_rfl) (fun _ _ _ h => h) (Or.inr ⟨by kernel_rfl, rfl⟩) (by assumption) ?_
  try simp only [Act.put, List.setIfInBounds_toArray, List.set_cons_zero, List.set_cons_succ]
  refine wpAnyH_take (i := 9) (oi := ⟨some 12, _, _, _, _, _⟩) (v := undef) rfl (by kernel_rfl) (by kernel_rfl) (by kernel_rfl) (fun _ _ _ h => h) (Or.inr ⟨by kernel_rfl, rfl⟩) (by assumption) ?_
  try simp only [Act.put, List.setIfInBounds_toArray, List.set_cons_zero, List.set_cons_succ]
  refine wpAnyH_take (i := 10) (oi := ⟨some 13, _, _, _, _, _⟩) (v := undef) rfl (by kernel_rfl) (by kernel_rfl) (by kernel_rfl) (fun _ _ _ h => h) (Or.inr ⟨by kernel_rfl, rfl⟩) (by assumption) ?_
  try simp only [Act.put, List.setIfInBounds_toArray, List.set_cons_zero, List.set_cons_succ]
  refine wpAnyH_take (i := 11) (oi := ⟨some 14, _, _, _, _, _⟩) (v := undef) rfl (by kernel_rfl) (by kernel_rfl) (by kernel_rfl) (fun _ _ _ h => h) (Or.inr ⟨by kernel_rfl, rfl⟩) (by assumption) ?_
  try simp only [Act.put, List.setIfInBounds_toArray, List.set_cons_zero, List.set_cons_succ]
  refine wpAnyH_take (i := 12) (oi := ⟨some 15, _, _, _, _, _⟩) (v := ?_) rfl (by kernel_rfl) (by kernel_rfl) (by kernel_rfl) (fun _ _ _ h => h) (Or.inl ⟨by kernel_rfl, ?_⟩) (by assumption) ?_
  case refine_2 => (intro w hSw; go_simp; try (with_reducible rfl))
  try simp only [Act.put, List.setIfInBounds_toArray, List.set_cons_zero, List.set_cons_succ]
  refine wpAnyH_take (i := 13) (oi := ⟨some 2, _, _, _, _, _⟩) (v := ?_) rfl (by kernel_rfl) (by kernel_rfl) (by kernel_rfl) (fun _ _ _ h => h) (Or.inl ⟨by kernel_rfl, ?_⟩) (by assumption) ?_
  case refine_2 => (intro w hSw; go_simp; try (with_reducible rfl))
  try simp only [Act.put, List.setIfInBounds_toArray, List.set_cons_zero, List.set_cons_succ]
  refine wpAnyH_done (by kernel_rfl) ?_ _
  clear hHeld
  have HB := Lib.hid hA.bel
  clear hA
  go_wp2
  go_ret
  exact ⟨rfl, HB.out⟩
set_option linter.unusedSimpArgs false in
set_option maxHeartbeats 4000000 in
theorem ended_some (h : FMI w F l s) (h0 : 0 < l.length) : Calls Tryz.prog 57 #[.agg #[.int .i64 (F.N : Int), .int .i64 F.Z, .slice F.wa F.wW F.wc, .int .i64 (F.R.n : Int), .slice F.R.a F.R.m F.R.c, .int .i64 (F.R.cn : Int), .int .i64 (F.R.cW : Int), .int .i64 (F.R.cL : Int), .slice F.R.a2 F.R.m2 F.R.c2, .int .i64 (F.S.n : Int), .int .i64 (F.S.W : Int), .int .i64 (F.S.L : Int), .slice F.S.a F.S.m F.S.c, .int .i64 (F.P.n : Int), .int .i64 (F.P.W : Int), .int .i64 (F.P.L : Int), .slice F.P.a F.P.m F.P.c]] w fun e u' => e = .returned (.bool (decide (l.getD (l.length - 1) 0 = 0))) ∧ Below w.heap.size w u' := by
  have hA := MX.new h
  have hfl := fun (u : World) (hu : MX w w.heap.size F l s u) => flen_mx hu
  have hla := fun (u : World) (hu : MX w w.heap.size F l s u) => last_mx hu h0
  have hlen := h.len
  obtain ⟨x, hx⟩ : ∃ x, l.getD (l.length - 1) 0 = x := ⟨_, rfl⟩
  simp only [hx] at hla ⊢
  obtain ⟨n, hn⟩ : ∃ n, l.length = n := ⟨_, rfl⟩
  simp only [hn] at hfl hla hlen h0
  have HC := Lib.hid (And.intro hfl hla)
  have q1 : ((n : Int) == 0) = false := by simp only [beq_eq_false_iff_ne, ne_eq]; omega
  have q2 : IntKind.i64.wrap ((n : Int) - 1) = ((n - 1 : Nat) : Int) := by rw [show (n : Int) - 1 = ((n - 1 : Nat) : Int) by omega]; exact IntWalk.i64_in _ (by omega)
  have q3 : (x == 0) = decide (x = 0) := rfl
  clear hfl hla hx hn h h0
  go_enter Tryz.func57, Tryz.ntmps57
  go_upto_region 1 with fail
  obtain ⟨w1, hw1⟩ : ∃ w1, w.alloc (.cells #[.int .i64 (F.N : Int), .int .i64 F.Z, .slice F.wa F.wW F.wc, .int .i64 (F.R.n : Int), .slice F.R.a F.R.m F.R.c, .int .i64 (F.R.cn : Int), .int .i64 (F.R.cW : Int), .int .i64 (F.R.cL : Int), .slice F.R.a2 F.R.m2 F.R.c2, .int .i64 (F.S.n : Int), .int .i64 (F.S.W : Int), .int .i64 (F.S.L : Int), .slice F.S.a F.S.m F.S.c, .int .i64 (F.P.n : Int), .int .i64 (F.P.W : Int), .int .i64 (F.P.L : Int), .slice F.P.a F.P.m F.P.c] 37) = w1 := ⟨_, rfl⟩
  obtain ⟨bx, hbx⟩ : ∃ bx, w.heap.size = bx := ⟨_, rfl⟩
  rw [hw1, hbx] at hA
  rw [hbx] at HC
  simp only [hw1, hbx]
  clear hw1
  try simp only [List.append_eq, List.cons_append, List.nil_append]
  refine wp_region_held_drew (S := fun w' => MX w bx F l s w') (by kernel_rfl) (hA.drew) (fun hHeld => ?_)
  replace hA := hA.drew
  refine wpAnyH_take (i := 0) (oi := ⟨some 3, _, _, _, _, _⟩) rfl (by kernel_rfl) (by kernel_rfl) (by kernel_rfl) (fun _ _ _ h => h) (yieldsIf_load_mid (by kernel_rfl) 37 _ rfl _ 0 rfl _ _ (fun w hw => MBx.range (MX.box hw)) Tryz.underlying37 rfl (by kernel_rfl)) (by assumption) ?_
  try simp only [Act.put, List.setIfInBounds_toArray, List.set_cons_zero, List.set_cons_succ]
  refine wpAnyH_ready (rs := [1]) (by kernel_rfl) (by simp) ?_
  refine AllReadyH.cons rfl (fun K hK => ?_) AllReadyH.nil
  go_simp
  (with_reducible refine (HC.out.1 _ hA).mono ?_)
  rintro e u ⟨rfl, hA'⟩
  replace hA := hA'
  clear hA'
  clear hHeld
  refine hK.out _ _ (hA) (fun hHeld => ?_)
  clear hK K
  try simp only [Act.put, List.setIfInBounds_toArray, List.set_cons_zero, List.set_cons_succ]
  refine wpAnyH_take (i := 2) (oi := ⟨some 5, _, _, _, _, _⟩) (v := ?_) rfl (by kernel_rfl) (by kernel_rfl) (by kernel_rfl) (fun _ _ _ h => h) (Or.inl ⟨by kernel_rfl, ?_⟩) (by assumption) ?_
  case refine_2 => (intro w hSw; go_simp; try (with_reducible rfl))
  try simp only [Act.put, List.setIfInBounds_toArray, List.set_cons_zero, List.set_cons_succ]
  refine wpAnyH_take (i := 3) (oi := ⟨some 6, _, _, _, _, _⟩) (v := ?_) rfl (by kernel_rfl) (by kernel_rfl) (by kernel_rfl) (fun _ _ _ h => h) (Or.inl ⟨by kernel_rfl, ?_⟩) (by assumption) ?_
  case refine_2 => (intro w hSw; go_simp; try (with_reducible rfl))
  try simp only [Act.put, List.setIfInBounds_toArray, List.set_cons_zero, List.set_cons_succ]
  refine wpAnyH_take (i := 4) (oi := ⟨some 7, _, _, _, _, _⟩) rfl (by kernel_rfl) (by kernel_rfl) (by kernel_rfl) (fun _ _ _ h => h) (yieldsIf_load_mid (by kernel_rfl) 37 _ rfl _ 0 rfl _ _ (fun w hw => MBx.range (MX.box hw)) Tryz.underlying37 rfl (by kernel_rfl)) (by assumption) ?_
  try simp only [Act.put, List.setIfInBounds_toArray, List.set_cons_zero, List.set_cons_succ]
  refine wpAnyH_take (i := 5) (oi := ⟨some 8, _, _, _, _, _⟩) rfl (by kernel_rfl) (by kernel_rfl) (by kernel_rfl) (fun _ _ _ h => h) (yieldsIf_load_mid (by kernel_rfl) 37 _ rfl _ 0 rfl _ _ (fun w hw => MBx.range (MX.box hw)) Tryz.underlying37 rfl (by kernel_rfl)) (by assumption) ?_
  try simp only [Act.put, List.setIfInBounds_toArray, List.set_cons_zero, List.set_cons_succ]
  refine wpAnyH_ready (rs := [6]) (by kernel_rfl) (by simp) ?_
  refine AllReadyH.cons rfl (fun K hK => ?_) AllReadyH.nil
  go_simp
  (with_reducible refine (HC.out.1 _ hA).mono ?_)
  rintro e u ⟨rfl, hA'⟩
  replace hA := hA'
  clear hA'
  clear hHeld
  refine hK.out _ _ (hA) (fun hHeld => ?_)
  clear hK K
  try simp only [Act.put, List.setIfInBounds_toArray, List.set_cons_zero, List.set_cons_succ]
  refine wpAnyH_take (i := 7) (oi := ⟨some 10, _, _, _, _, _⟩) (v := ?_) rfl (by kernel_rfl) (by kernel_rfl) (by kernel_rfl) (fun _ _ _ h => h) (Or.inl ⟨by kernel_rfl, ?_⟩) (by assumption) ?_
  case refine_2 => (intro w hSw; go_simp; try (with_reducible rfl))
  try simp only [Act.put, List.setIfInBounds_toArray, List.set_cons_zero, List.set_cons_succ]
  refine wpAnyH_ready (rs := [8]) (by kernel_rfl) (by simp) ?_
  refine AllReadyH.cons rfl (fun K hK => ?_) AllReadyH.nil
  go_simp
  (with_reducible refine (HC.out.2 _ hA).mono ?_)
  rintro e u ⟨D, rfl, hcell, hA2⟩
  replace hA := hA2
  clear hA2
  clear hHeld
  refine hK.out _ _ (hA) (fun hHeld => ?_)
  clear hK K
  try simp only [Act.put, List.setIfInBounds_toArray, List.set_cons_zero, List.set_cons_succ]
  refine wpAnyH_take (i := 9) (oi := ⟨some 12, _, _, _, _, _⟩) (v := ?_) rfl (by kernel_rfl) (by kernel_rfl) (by kernel_rfl) (fun _ _ _ h => h) (Or.inl ⟨by kernel_rfl, ?_⟩) (by assumption) ?_
  case refine_2 => (intro w hSw; go_simp; try (with_reducible rfl))
  try simp only [Act.put, List.setIfInBounds_toArray, List.set_cons_zero, List.set_cons_succ]
  refine wpAnyH_ready (rs := [10]) (by kernel_rfl) (by simp) ?_
  refine AllReadyH.cons rfl (fun K hK => ?_) AllReadyH.nil
  go_simp
  clear hHeld
  refine hK.out _ _ (hA) (fun hHeld => ?_)
  clear hK K
  try simp only [Act.put, List.setIfInBounds_toArray, List.set_cons_zero, List.set_cons_succ]
  refine wpAnyH_take (i := 11) (oi := ⟨some 14, _, _, _, _, _⟩) (v := ?_) rfl (by kernel_rfl) (by kernel_rfl) (by kernel_rfl) (fun _ _ _ h => h) (Or.inl ⟨by kernel_rfl, ?_⟩) (by assumption) ?_
  case refine_2 => (intro w hSw; go_simp; try (with_reducible rfl))
  try simp only [Act.put, List.setIfInBounds_toArray, List.set_cons_zero, List.set_cons_succ]
  refine wpAnyH_take (i := 12) (oi := ⟨some 15, _, _, _, _, _⟩) (v := ?_) rfl (by kernel_rfl) (by kernel_rfl) (by kernel_rfl) (fun _ _ _ h => h) (Or.inl ⟨by kernel_rfl, ?_⟩) (by assumption) ?_
  case refine_2 => (intro w hSw; go_simp; try (with_reducible rfl))
  try simp only [Act.put, List.setIfInBounds_toArray, List.set_cons_zero, List.set_cons_succ]
  refine wpAnyH_take (i := 13) (oi := ⟨some 2, _, _, _, _, _⟩) (v := ?_) rfl (by kernel_rfl) (by kernel_rfl) (by kernel_rfl) (fun _ _ _ h => h) (Or.inl ⟨by kernel_rfl, ?_⟩) (by assumption) ?_
  case refine_2 => (intro w hSw; go_simp; try (with_reducible rfl))
  try simp only [Act.put, List.setIfInBounds_toArray, List.set_cons_zero, List.set_cons_succ]
  refine wpAnyH_done (by kernel_rfl) ?_ _
  clear hHeld
  have HB := Lib.hid hA.bel
  clear hA
  go_wp2
  go_ret
  exact ⟨rfl, HB.out⟩

/-! ## Load -/
def FQZ : FQ := ⟨0, 0, none, 0, 0, ⟨0, none, 0, 0, 0, 0, 0, none, 0, 0⟩, ⟨0, 0, 0, none, 0, 0⟩, ⟨0, 0, 0, none, 0, 0⟩⟩
theorem store40R {ops : Array Oper} {o : Oper} {a : Act} {K : Act → World → Prop} {R : Exit → Act → World → Prop} {Ee : Prop} (F : FQ) (E : Option Addr) (n c b : Nat) (x y : Operand) (ho : o.op = .store 40 x y) (hw : Region.wanted o (yielded ops a.tmps) = true)
    (hx : a.eval x = .pointer (some ⟨b, 0, none⟩)) (hy : a.eval y = .agg #[.int .i64 (F.N : Int), .int .i64 F.Z, .slice F.wa F.wW F.wc, .int .i64 (F.R.n : Int), .slice F.R.a F.R.m F.R.c, .int .i64 (F.R.cn : Int), .int .i64 (F.R.cW : Int), .int .i64 (F.R.cL : Int), .slice F.R.a2 F.R.m2 F.R.c2, .int .i64 (F.S.n : Int), .int .i64 (F.S.W : Int), .int .i64 (F.S.L : Int), .slice F.S.a F.S.m F.S.c, .int .i64 (F.P.n : Int), .int .i64 (F.P.W : Int), .int .i64 (F.P.L : Int), .slice F.P.a F.P.m F.P.c, .slice E n c]) (ht : u.there b 0 18)
    (k : K (a.put o.dst undef) (u.setCells b 0 [.int .i64 (F.N : Int), .int .i64 F.Z, .slice F.wa F.wW F.wc, .int .i64 (F.R.n : Int), .slice F.R.a F.R.m F.R.c, .int .i64 (F.R.cn : Int), .int .i64 (F.R.cW : Int), .int .i64 (F.R.cL : Int), .slice F.R.a2 F.R.m2 F.R.c2, .int .i64 (F.S.n : Int), .int .i64 (F.S.W : Int), .int .i64 (F.S.L : Int), .slice F.S.a F.S.m F.S.c, .int .i64 (F.P.n : Int), .int .i64 (F.P.W : Int), .int .i64 (F.P.L : Int), .slice F.P.a F.P.m F.P.c, .slice E n c])) : if Region.wanted o (yielded ops a.tmps) = true then Oper.wp Tryz.prog o a u K R else Ee := by
  rw [if_pos hw]
  exact wp_store_mid 40 x y ho b 0 #[.int .i64 (F.N : Int), .int .i64 F.Z, .slice F.wa F.wW F.wc, .int .i64 (F.R.n : Int), .slice F.R.a F.R.m F.R.c, .int .i64 (F.R.cn : Int), .int .i64 (F.R.cW : Int), .int .i64 (F.R.cL : Int), .slice F.R.a2 F.R.m2 F.R.c2, .int .i64 (F.S.n : Int), .int .i64 (F.S.W : Int), .int .i64 (F.S.L : Int), .slice F.S.a F.S.m F.S.c, .int .i64 (F.P.n : Int), .int .i64 (F.P.W : Int), .int .i64 (F.P.L : Int), .slice F.P.a F.P.m F.P.c, .slice E n c] hx hy ht (by kernel_rfl) (by kernel_rfl) k
theorem endB_row (ss : List ByteArray) : endB (rowV ss) = true := by
  unfold endB
  rw [Bool.or_eq_true, decide_eq_true_eq, decide_eq_true_eq]
  by_cases h : ss.length = 0
  · left; rw [row_len, h]; rfl
  · right
    have e := row_end ss (i := ss.length - 1) (by omega)
    have hb := bg_up ss (ss.length - 1)
    rw [show ss.length - 1 + 1 = ss.length by omega] at hb
    rw [row_len, show bg ss ss.length - 1 = bg ss (ss.length - 1) + (tV ss (ss.length - 1)).size by omega]
    exact e
theorem vended_any (h : FMI w F l s) : Calls Tryz.prog 57 #[.agg #[.int .i64 (F.N : Int), .int .i64 F.Z, .slice F.wa F.wW F.wc, .int .i64 (F.R.n : Int), .slice F.R.a F.R.m F.R.c, .int .i64 (F.R.cn : Int), .int .i64 (F.R.cW : Int), .int .i64 (F.R.cL : Int), .slice F.R.a2 F.R.m2 F.R.c2, .int .i64 (F.S.n : Int), .int .i64 (F.S.W : Int), .int .i64 (F.S.L : Int), .slice F.S.a F.S.m F.S.c, .int .i64 (F.P.n : Int), .int .i64 (F.P.W : Int), .int .i64 (F.P.L : Int), .slice F.P.a F.P.m F.P.c]] w fun e u' => e = .returned (.bool (endB l)) ∧ Below w.heap.size w u' := by
  by_cases h0 : l.length = 0
  · have e : endB l = true := by unfold endB; simp [h0]
    rw [e]; exact ended_none h h0
  · have e : endB l = decide (l.getD (l.length - 1) 0 = 0) := by unfold endB; simp [h0]
    rw [e]; exact ended_some h (by omega)
/-- What Load holds: its argument in a box, and the box of its result. -/
structure LD (w : World) (bx r : Nat) (F : FQ) (l : List Int) (s : Nat) (u : World) : Prop where
  mx : MX w bx F l s u
  th : u.there r 0 18
  ty : Typ u r 40
theorem LD.kept {bx r : Nat} {u' : World} (h : LD w bx r F l s u) (hb : Below u.heap.size u u') : LD w bx r F l s u' := ⟨h.mx.kept hb, there_kp h.th h.ty.lt (Below.kp hb) (fun h => h), h.ty.kept hb⟩
theorem LD.start (h : FMI w F l s) : LD w w.heap.size (w.heap.size + 1) F l s ((w.alloc (.cells #[.int .i64 (F.N : Int), .int .i64 F.Z, .slice F.wa F.wW F.wc, .int .i64 (F.R.n : Int), .slice F.R.a F.R.m F.R.c, .int .i64 (F.R.cn : Int), .int .i64 (F.R.cW : Int), .int .i64 (F.R.cL : Int), .slice F.R.a2 F.R.m2 F.R.c2, .int .i64 (F.S.n : Int), .int .i64 (F.S.W : Int), .int .i64 (F.S.L : Int), .slice F.S.a F.S.m F.S.c, .int .i64 (F.P.n : Int), .int .i64 (F.P.W : Int), .int .i64 (F.P.L : Int), .slice F.P.a F.P.m F.P.c] 37)).alloc (.cells #[.int .i64 0, .int .i64 0, .slice none 0 0, .int .i64 0, .slice none 0 0, .int .i64 0, .int .i64 0, .int .i64 0, .slice none 0 0, .int .i64 0, .int .i64 0, .int .i64 0, .slice none 0 0, .int .i64 0, .int .i64 0, .int .i64 0, .slice none 0 0, .slice none 0 0] 40)) := by
  obtain ⟨w1, hw1⟩ : ∃ w1, w1 = w.alloc (.cells #[.int .i64 (F.N : Int), .int .i64 F.Z, .slice F.wa F.wW F.wc, .int .i64 (F.R.n : Int), .slice F.R.a F.R.m F.R.c, .int .i64 (F.R.cn : Int), .int .i64 (F.R.cW : Int), .int .i64 (F.R.cL : Int), .slice F.R.a2 F.R.m2 F.R.c2, .int .i64 (F.S.n : Int), .int .i64 (F.S.W : Int), .int .i64 (F.S.L : Int), .slice F.S.a F.S.m F.S.c, .int .i64 (F.P.n : Int), .int .i64 (F.P.W : Int), .int .i64 (F.P.L : Int), .slice F.P.a F.P.m F.P.c] 37) := ⟨_, rfl⟩
  have hs1 : w1.heap.size = w.heap.size + 1 := by rw [hw1]; simp
  have hm : MX w w.heap.size F l s w1 := by rw [hw1]; exact MX.new h
  rw [← hw1, ← hs1]
  exact ⟨hm.kept (al w1 _), there18 w1, ⟨_, _, heap_alloc_new w1 _⟩⟩
set_option maxHeartbeats 4000000 in
theorem vload_no (h : FMI w F l s) (hn : s ≠ 257 ∨ endB l = false) : Calls Tryz.prog 33 #[.agg #[.int .i64 (F.N : Int), .int .i64 F.Z, .slice F.wa F.wW F.wc, .int .i64 (F.R.n : Int), .slice F.R.a F.R.m F.R.c, .int .i64 (F.R.cn : Int), .int .i64 (F.R.cW : Int), .int .i64 (F.R.cL : Int), .slice F.R.a2 F.R.m2 F.R.c2, .int .i64 (F.S.n : Int), .int .i64 (F.S.W : Int), .int .i64 (F.S.L : Int), .slice F.S.a F.S.m F.S.c, .int .i64 (F.P.n : Int), .int .i64 (F.P.W : Int), .int .i64 (F.P.L : Int), .slice F.P.a F.P.m F.P.c]] w fun e u' => e = .returned (.tuple #[.agg #[.int .i64 0, .int .i64 0, .slice none 0 0, .int .i64 0, .slice none 0 0, .int .i64 0, .int .i64 0, .int .i64 0, .slice none 0 0, .int .i64 0, .int .i64 0, .int .i64 0, .slice none 0 0, .int .i64 0, .int .i64 0, .int .i64 0, .slice none 0 0, .slice none 0 0], .int .i64 10]) ∧ Below w.heap.size w u' := by
  have hL := LD.start h
  have hlen := h.len
  obtain ⟨w2, hw2⟩ : ∃ w2, w2 = (w.alloc (.cells #[.int .i64 (F.N : Int), .int .i64 F.Z, .slice F.wa F.wW F.wc, .int .i64 (F.R.n : Int), .slice F.R.a F.R.m F.R.c, .int .i64 (F.R.cn : Int), .int .i64 (F.R.cW : Int), .int .i64 (F.R.cL : Int), .slice F.R.a2 F.R.m2 F.R.c2, .int .i64 (F.S.n : Int), .int .i64 (F.S.W : Int), .int .i64 (F.S.L : Int), .slice F.S.a F.S.m F.S.c, .int .i64 (F.P.n : Int), .int .i64 (F.P.W : Int), .int .i64 (F.P.L : Int), .slice F.P.a F.P.m F.P.c] 37)).alloc (.cells #[.int .i64 0, .int .i64 0, .slice none 0 0, .int .i64 0, .slice none 0 0, .int .i64 0, .int .i64 0, .int .i64 0, .slice none 0 0, .int .i64 0, .int .i64 0, .int .i64 0, .slice none 0 0, .int .i64 0, .int .i64 0, .int .i64 0, .slice none 0 0, .slice none 0 0] 40) := ⟨_, rfl⟩
  rw [← hw2] at hL
  have hsz := fun (u : World) (hu : LD w w.heap.size (w.heap.size + 1) F l s u) => fsize_any hu.mx.fm
  have hfl := fun (u : World) (hu : LD w w.heap.size (w.heap.size + 1) F l s u) => flen_any hu.mx.fm
  have hen := fun (u : World) (hu : LD w w.heap.size (w.heap.size + 1) F l s u) => vended_any hu.mx.fm
  obtain ⟨n, hln⟩ : ∃ n, l.length = n := ⟨_, rfl⟩
  obtain ⟨g, hg⟩ : ∃ g, endB l = g := ⟨_, rfl⟩
  simp only [hln] at hfl hlen
  simp only [hg] at hen
  rw [hg] at hn
  have HL := Lib.hid hL
  have HC := Lib.hid (And.intro hsz (And.intro hfl hen))
  clear hL hsz hfl hen hln hg h
  go_enter Tryz.func33, Tryz.ntmps33
  go_upto_region 1 with fail
  rw [← hw2]
  clear hw2
  obtain ⟨bx, hbx⟩ : ∃ bx, w.heap.size = bx := ⟨_, rfl⟩
  simp only [hbx] at HL HC ⊢
  by_cases hs : s = 257
  · have hg : g = false := hn.resolve_left (by omega)
    subst hg
    have q1 : ((s : Int) != 257) = false := by simp; omega
    have q3 : (1048576 < (n : Int)) = False := by simp; omega
    have q2 : ¬ (1048576 : Int) < (n : Int) := by omega
    clear hn
    go_wp2_with (first | (refine load36 HL.out.mx.box _ (by with_reducible rfl) rfl rfl ?_) | (go_at_call 24; (with_reducible refine (HC.out.1 _ HL.out).mono ?_); rintro e z3 ⟨rfl, hb3⟩; have H3 := Lib.hid (HL.out.kept hb3); clear hb3 HL) | (refine load36 H3.out.mx.box _ (by with_reducible rfl) rfl rfl ?_) | (go_at_call 36; (with_reducible refine (HC.out.2.1 _ H3.out).mono ?_); rintro e z4 ⟨rfl, hb4⟩; have H4 := Lib.hid (H3.out.kept hb4); clear hb4 H3) | (refine load36 H4.out.mx.box _ (by with_reducible rfl) rfl rfl ?_) | (go_at_call 57; (with_reducible refine (HC.out.2.2 _ H4.out).mono ?_); rintro e z5 ⟨rfl, hb5⟩; have H5 := Lib.hid (H4.out.kept hb5); clear hb5 H4) | (refine store40 (op := ⟨none, .store 40 (.tmp 2) (.tmp 17), _, _, _, _⟩) FQZ none 0 0 (bx + 1) (.tmp 2) (.tmp 17) rfl rfl rfl rfl H5.out.th ?_))
    have hrange := World.rangeAt_setCells_same z5 (bx + 1) 0 [.int .i64 (FQZ.N : Int), .int .i64 FQZ.Z, .slice FQZ.wa FQZ.wW FQZ.wc, .int .i64 (FQZ.R.n : Int), .slice FQZ.R.a FQZ.R.m FQZ.R.c, .int .i64 (FQZ.R.cn : Int), .int .i64 (FQZ.R.cW : Int), .int .i64 (FQZ.R.cL : Int), .slice FQZ.R.a2 FQZ.R.m2 FQZ.R.c2, .int .i64 (FQZ.S.n : Int), .int .i64 (FQZ.S.W : Int), .int .i64 (FQZ.S.L : Int), .slice FQZ.S.a FQZ.S.m FQZ.S.c, .int .i64 (FQZ.P.n : Int), .int .i64 (FQZ.P.W : Int), .int .i64 (FQZ.P.L : Int), .slice FQZ.P.a FQZ.P.m FQZ.P.c, .slice none 0 0] H5.out.th
    have hb8 : Below w.heap.size w (z5.setCells (bx + 1) 0 [.int .i64 (FQZ.N : Int), .int .i64 FQZ.Z, .slice FQZ.wa FQZ.wW FQZ.wc, .int .i64 (FQZ.R.n : Int), .slice FQZ.R.a FQZ.R.m FQZ.R.c, .int .i64 (FQZ.R.cn : Int), .int .i64 (FQZ.R.cW : Int), .int .i64 (FQZ.R.cL : Int), .slice FQZ.R.a2 FQZ.R.m2 FQZ.R.c2, .int .i64 (FQZ.S.n : Int), .int .i64 (FQZ.S.W : Int), .int .i64 (FQZ.S.L : Int), .slice FQZ.S.a FQZ.S.m FQZ.S.c, .int .i64 (FQZ.P.n : Int), .int .i64 (FQZ.P.W : Int), .int .i64 (FQZ.P.L : Int), .slice FQZ.P.a FQZ.P.m FQZ.P.c, .slice none 0 0]) := Below.setCells' (by omega) _ 0 H5.out.mx.bel
    refine bodyPost_ret (v := .tuple #[.agg #[.int .i64 0, .int .i64 0, .slice none 0 0, .int .i64 0, .slice none 0 0, .int .i64 0, .int .i64 0, .int .i64 0, .slice none 0 0, .int .i64 0, .int .i64 0, .int .i64 0, .slice none 0 0, .int .i64 0, .int .i64 0, .int .i64 0, .slice none 0 0, .slice none 0 0], .int .i64 10]) (results_v2 (b := bx + 1) (F := FQZ) Tryz.results33 _ ?hp ?hq hrange) ?hd ?_
    case hp => rfl
    case hq => rfl
    case hd => rfl
    exact ⟨rfl, hb8⟩
  · have q1 : ((s : Int) != 257) = true := by simp; omega
    clear hn
    go_wp2_with (first | (refine load36 HL.out.mx.box _ (by with_reducible rfl) rfl rfl ?_) | (go_at_call 24; (with_reducible refine (HC.out.1 _ HL.out).mono ?_); rintro e z3 ⟨rfl, hb3⟩; have H3 := Lib.hid (HL.out.kept hb3); clear hb3 HL) | (refine store40 (op := ⟨none, .store 40 (.tmp 2) (.tmp 17), _, _, _, _⟩) FQZ none 0 0 (bx + 1) (.tmp 2) (.tmp 17) rfl rfl rfl rfl H3.out.th ?_))
    have hrange := World.rangeAt_setCells_same z3 (bx + 1) 0 [.int .i64 (FQZ.N : Int), .int .i64 FQZ.Z, .slice FQZ.wa FQZ.wW FQZ.wc, .int .i64 (FQZ.R.n : Int), .slice FQZ.R.a FQZ.R.m FQZ.R.c, .int .i64 (FQZ.R.cn : Int), .int .i64 (FQZ.R.cW : Int), .int .i64 (FQZ.R.cL : Int), .slice FQZ.R.a2 FQZ.R.m2 FQZ.R.c2, .int .i64 (FQZ.S.n : Int), .int .i64 (FQZ.S.W : Int), .int .i64 (FQZ.S.L : Int), .slice FQZ.S.a FQZ.S.m FQZ.S.c, .int .i64 (FQZ.P.n : Int), .int .i64 (FQZ.P.W : Int), .int .i64 (FQZ.P.L : Int), .slice FQZ.P.a FQZ.P.m FQZ.P.c, .slice none 0 0] H3.out.th
    have hb8 : Below w.heap.size w (z3.setCells (bx + 1) 0 [.int .i64 (FQZ.N : Int), .int .i64 FQZ.Z, .slice FQZ.wa FQZ.wW FQZ.wc, .int .i64 (FQZ.R.n : Int), .slice FQZ.R.a FQZ.R.m FQZ.R.c, .int .i64 (FQZ.R.cn : Int), .int .i64 (FQZ.R.cW : Int), .int .i64 (FQZ.R.cL : Int), .slice FQZ.R.a2 FQZ.R.m2 FQZ.R.c2, .int .i64 (FQZ.S.n : Int), .int .i64 (FQZ.S.W : Int), .int .i64 (FQZ.S.L : Int), .slice FQZ.S.a FQZ.S.m FQZ.S.c, .int .i64 (FQZ.P.n : Int), .int .i64 (FQZ.P.W : Int), .int .i64 (FQZ.P.L : Int), .slice FQZ.P.a FQZ.P.m FQZ.P.c, .slice none 0 0]) := Below.setCells' (by omega) _ 0 H3.out.mx.bel
    refine bodyPost_ret (v := .tuple #[.agg #[.int .i64 0, .int .i64 0, .slice none 0 0, .int .i64 0, .slice none 0 0, .int .i64 0, .int .i64 0, .int .i64 0, .slice none 0 0, .int .i64 0, .int .i64 0, .int .i64 0, .slice none 0 0, .int .i64 0, .int .i64 0, .int .i64 0, .slice none 0 0, .slice none 0 0], .int .i64 10]) (results_v2 (b := bx + 1) (F := FQZ) Tryz.results33 _ ?hp ?hq hrange) ?hd ?_
    case hp => rfl
    case hq => rfl
    case hd => rfl
    exact ⟨rfl, hb8⟩

end Go.Proofs.YtpnjccomngdblaaGreat

/- The contracts of beside, Merge, Both, Without. -/
import Derived.Test.YtjijkiafjlfeiaaOV
set_option maxRecDepth 100000
namespace Go.Proofs.Ytjijkiafjlfeiaa
open Go.RowKit
open M
attribute [local go_sem ↓] Go.wp_at_zero Go.wp_at_succ

set_option maxHeartbeats 8000000 in
theorem beside36_any (A B : Option Addr) (na nb ca cb : Nat) (P Q : Nat → Bool) (w : World) (hA : NumsAt .i64 w A (rsL P 64)) (hB : NumsAt .i64 w B (rsL Q 64)) (hla : (rsL P 64).length = na) (hlb : (rsL Q 64).length = nb) :
    Calls Try.prog 35 #[.slice A na ca, .slice B nb cb, .func (.func 36) #[] #[]] w fun e u => ∃ v, e = .returned v ∧ OwnI w v (rsL (keepR k36 P Q) 64) u := by
  have hna := rsL_len P 64
  have hnb := rsL_len Q 64
  rw [hla] at hna
  rw [hlb] at hnb
  have hmg := MG.start P Q
  have hb2 := boxed2 w (.cells #[.func (.func 36) #[] #[]] 45) (.cells #[.slice none 0 0] 22)
  have hBX : BX w (.func (.func 36) #[] #[]) (.slice none 0 0) (rsL (keepR k36 P Q) 0) ((w.alloc (.cells #[.func (.func 36) #[] #[]] 45)).alloc (.cells #[.slice none 0 0] 22)) :=
    ⟨by rw [cell_old _ _ _ _ (by simp), cell_new _ _ _ _ _ rfl]; rfl, by rw [cell_new _ _ _ _ _ (by simp)]; rfl, frozen_new _ _ _ _ _ (by simp), World.ownsRow_nil _ _ _ _, hb2⟩
  generalize ha : rsL P 64 = a at *
  generalize hb : rsL Q 64 = b at *
  have HX := Lib.hid (And.intro hA (And.intro hla (And.intro hB hlb)))
  have HM := Lib.hid hmg
  have HBX := Lib.hid hBX
  clear hA hB hla hlb ha hb hmg hb2 hBX
  go_enter Try.func35, Try.ntmps35
  go_wp2
  go_step3
  go_wp2
  go_step3
  go_wp2
  go_loopg [9, 10] (na + nb) (fun g1 v9 v10 wr => ∃ (i j t : Nat) (v : Value), i ≤ na ∧ j ≤ nb ∧ na - i + (nb - j) ≤ g1 ∧ v9 = .int .i64 (i : Int) ∧ v10 = .int .i64 (j : Int) ∧ MG P Q t (a.drop i) (b.drop j) ∧ BX w (.func (.func 36) #[] #[]) v (rsL (keepR k36 P Q) t) wr)
  case atStart => exact ⟨0, 0, 0, _, Nat.zero_le _, Nat.zero_le _, by omega, rfl, rfl, HM.out, HBX.out⟩
  case round =>
    obtain ⟨i, j, t, v, hi, hj, hg, rfl, rfl, hmg, hbx⟩ := hrel
    clear HM HBX
    have hpl := rsL_len (keepR k36 P Q) t
    have htl := hmg.le
    have ida : na ≤ i → a.drop i = [] := fun h => List.drop_eq_nil_of_le (by rw [HX.out.2.1]; exact h)
    have idb : nb ≤ j → b.drop j = [] := fun h => List.drop_eq_nil_of_le (by rw [HX.out.2.2.2]; exact h)
    have cda : i < na → a.drop i = a.getD i 0 :: a.drop (i + 1) := fun h => drop_at (by rw [HX.out.2.1]; exact h)
    have cdb : j < nb → b.drop j = b.getD j 0 :: b.drop (j + 1) := fun h => drop_at (by rw [HX.out.2.2.2]; exact h)
    have hnA := HX.out.1.kept hbx.bel
    have hnB := HX.out.2.2.1.kept hbx.bel
    by_cases hia : i < na
    · obtain ⟨bb, off, hAe, -, cA⟩ := num_at hnA (i := i) (by rw [HX.out.2.1]; exact hia)
      rw [cda hia] at hmg
      have n1 : ((i : Int) == (na : Int)) = false := by simp; omega
      have n3 : (i : Int) < (na : Int) := by omega
      have n4 : (0 : Int) ≤ (i : Int) := by omega
      by_cases hjb : j < nb
      · obtain ⟨cc, cof, hBe, -, cB⟩ := num_at hnB (i := j) (by rw [HX.out.2.2.2]; exact hjb)
        rw [cdb hjb] at hmg
        have n2 : ((j : Int) == (nb : Int)) = false := by simp; omega
        have n5 : (j : Int) < (nb : Int) := by omega
        have n6 : (0 : Int) ≤ (j : Int) := by omega
        have HDA := Lib.hid (cda hia)
        have HDB := Lib.hid (cdb hjb)
        clear ida idb cda cdb hnA hnB
        generalize a.getD i 0 = x at *
        generalize b.getD j 0 = y at *
        rcases Int.lt_trichotomy x y with hxy | hxy | hxy
        · obtain ⟨t', hmg', hrs⟩ := hmg.stepA (K := k36) (fun y' rb e => by have := (List.cons.inj e).1; omega)
          have htk := fun q => take36_any x true false w (wr.drewN q) v _ (hbx.kept (below_drewN wr q)) (by omega)
          rw [← hrs] at htk
          subst hAe
          subst hBe
          have HTK := Lib.hid htk
          have HMG := Lib.hid hmg'
          clear htk hmg hbx hrs hmg'
          go_wp2
          go_quiet (fail)
          go_wp2_with fail
          (with_reducible refine (HTK.out _).mono ?_)
          rintro e u1 ⟨rfl, v1, hb1⟩
          have HB1 := Lib.hid hb1
          clear hb1
          go_wp2
          go_roundg (gk - 1)
          case rel => exact ⟨i + 1, j, t', v1, by omega, hj, by omega, by go_num, rfl, by rw [HDB.out]; exact HMG.out, HB1.out⟩
          case measure => omega
        · subst hxy
          obtain ⟨t', hmg', hrs⟩ := hmg.stepAB (K := k36)
          have htk := fun q => take36_any x true true w (wr.drewN q) v _ (hbx.kept (below_drewN wr q)) (by omega)
          rw [← hrs] at htk
          subst hAe
          subst hBe
          have HTK := Lib.hid htk
          have HMG := Lib.hid hmg'
          clear htk hmg hbx hrs hmg'
          go_wp2
          go_quiet (fail)
          go_wp2
          go_quiet (fail)
          go_wp2_with fail
          (with_reducible refine (HTK.out _).mono ?_)
          rintro e u1 ⟨rfl, v1, hb1⟩
          have HB1 := Lib.hid hb1
          clear hb1
          go_wp2
          go_roundg (gk - 1)
          case rel => exact ⟨i + 1, j + 1, t', v1, by omega, by omega, by omega, by go_num, by go_num, HMG.out, HB1.out⟩
          case measure => omega
        · obtain ⟨t', hmg', hrs⟩ := hmg.stepB (K := k36) (fun x' ra e => by have := (List.cons.inj e).1; omega)
          have htk := fun q => take36_any y false true w (wr.drewN q) v _ (hbx.kept (below_drewN wr q)) (by omega)
          rw [← hrs] at htk
          subst hAe
          subst hBe
          have HTK := Lib.hid htk
          have HMG := Lib.hid hmg'
          clear htk hmg hbx hrs hmg'
          go_wp2
          go_quiet (fail)
          go_wp2
          go_quiet (fail)
          go_wp2_with fail
          (with_reducible refine (HTK.out _).mono ?_)
          rintro e u1 ⟨rfl, v1, hb1⟩
          have HB1 := Lib.hid hb1
          clear hb1
          go_wp2
          go_roundg (gk - 1)
          case rel => exact ⟨i, j + 1, t', v1, hi, by omega, by omega, rfl, by go_num, by rw [HDA.out]; exact HMG.out, HB1.out⟩
          case measure => omega
      · obtain rfl : j = nb := by omega
        rw [idb (Nat.le_refl _)] at hmg
        have HIB := Lib.hid (idb (Nat.le_refl _))
        have n2 : ((j : Int) == (j : Int)) = true := by simp
        clear ida idb cda cdb hnA hnB
        generalize a.getD i 0 = x at *
        obtain ⟨t', hmg', hrs⟩ := hmg.stepA (K := k36) (fun y' rb e => by cases e)
        have htk := fun q => take36_any x true false w (wr.drewN q) v _ (hbx.kept (below_drewN wr q)) (by omega)
        rw [← hrs] at htk
        subst hAe
        have HTK := Lib.hid htk
        have HMG := Lib.hid hmg'
        clear htk hmg hbx hrs hmg'
        go_wp2
        go_quiet (fail)
        go_wp2_with fail
        (with_reducible refine (HTK.out _).mono ?_)
        rintro e u1 ⟨rfl, v1, hb1⟩
        have HB1 := Lib.hid hb1
        clear hb1
        go_wp2
        go_roundg (gk - 1)
        case rel => exact ⟨i + 1, j, t', v1, by omega, hj, by omega, by go_num, rfl, by rw [HIB.out]; exact HMG.out, HB1.out⟩
        case measure => omega
    · obtain rfl : i = na := by omega
      rw [ida (Nat.le_refl _)] at hmg
      have n1 : ((i : Int) == (i : Int)) = true := by simp
      have n3 : ¬ (i : Int) < (i : Int) := by omega
      by_cases hjb : j < nb
      · obtain ⟨cc, cof, hBe, -, cB⟩ := num_at hnB (i := j) (by rw [HX.out.2.2.2]; exact hjb)
        rw [cdb hjb] at hmg
        have HIA := Lib.hid (ida (Nat.le_refl _))
        have n2 : ((j : Int) == (nb : Int)) = false := by simp; omega
        have n5 : (j : Int) < (nb : Int) := by omega
        have n6 : (0 : Int) ≤ (j : Int) := by omega
        clear ida idb cda cdb hnA hnB
        generalize b.getD j 0 = y at *
        obtain ⟨t', hmg', hrs⟩ := hmg.stepB (K := k36) (fun x' ra e => by cases e)
        have htk := fun q => take36_any y false true w (wr.drewN q) v _ (hbx.kept (below_drewN wr q)) (by omega)
        rw [← hrs] at htk
        subst hBe
        have HTK := Lib.hid htk
        have HMG := Lib.hid hmg'
        clear htk hmg hbx hrs hmg'
        go_wp2
        go_quiet (fail)
        go_wp2
        go_quiet (fail)
        go_wp2_with fail
        (with_reducible refine (HTK.out _).mono ?_)
        rintro e u1 ⟨rfl, v1, hb1⟩
        have HB1 := Lib.hid hb1
        clear hb1
        go_wp2
        go_roundg (gk - 1)
        case rel => exact ⟨i, j + 1, t', v1, hi, by omega, by omega, rfl, by go_num, by rw [HIA.out]; exact HMG.out, HB1.out⟩
        case measure => omega
      · obtain rfl : j = nb := by omega
        rw [idb (Nat.le_refl _)] at hmg
        have hst := hmg.stop (K := k36)
        have n2 : ((j : Int) == (j : Int)) = true := by simp
        have o0 := hbx.o0
        have HF := Lib.hid (And.intro hbx hst)
        clear hbx hst hmg ida idb cda cdb hnA hnB
        go_wp2
        try rw [Exit.noGoto_ret]
        go_ret
        exact ⟨_, rfl, own_mono (by rw [HF.out.2]; exact HF.out.1.own) (by omega), HF.out.1.bel⟩

theorem merge_any (A B : Option Addr) (na nb ca cb : Nat) (P Q : Nat → Bool) (w : World) (hA : NumsAt .i64 w A (rsL P 64)) (hB : NumsAt .i64 w B (rsL Q 64)) (hla : (rsL P 64).length = na) (hlb : (rsL Q 64).length = nb) :
    Calls Try.prog 23 #[.slice A na ca, .slice B nb cb] w fun e u => ∃ v, e = .returned v ∧ OwnI w v (rsL (keepR k36 P Q) 64) u := by
  have h := beside36_any A B na nb ca cb P Q w hA hB hla hlb
  have H := Lib.hid h
  clear h hA hB hla hlb
  go_enter Try.func23, Try.ntmps23
  go_wp2_with fail
  (with_reducible refine H.out.mono ?_)
  rintro e u ⟨v, rfl, hI⟩
  have HI := Lib.hid hI
  clear hI
  go_wp2
  go_ret
  exact ⟨v, rfl, HI.out⟩

set_option maxHeartbeats 8000000 in
theorem beside37_any (A B : Option Addr) (na nb ca cb : Nat) (P Q : Nat → Bool) (w : World) (hA : NumsAt .i64 w A (rsL P 64)) (hB : NumsAt .i64 w B (rsL Q 64)) (hla : (rsL P 64).length = na) (hlb : (rsL Q 64).length = nb) :
    Calls Try.prog 35 #[.slice A na ca, .slice B nb cb, .func (.func 37) #[] #[]] w fun e u => ∃ v, e = .returned v ∧ OwnI w v (rsL (keepR k37 P Q) 64) u := by
  have hna := rsL_len P 64
  have hnb := rsL_len Q 64
  rw [hla] at hna
  rw [hlb] at hnb
  have hmg := MG.start P Q
  have hb2 := boxed2 w (.cells #[.func (.func 37) #[] #[]] 45) (.cells #[.slice none 0 0] 22)
  have hBX : BX w (.func (.func 37) #[] #[]) (.slice none 0 0) (rsL (keepR k37 P Q) 0) ((w.alloc (.cells #[.func (.func 37) #[] #[]] 45)).alloc (.cells #[.slice none 0 0] 22)) :=
    ⟨by rw [cell_old _ _ _ _ (by simp), cell_new _ _ _ _ _ rfl]; rfl, by rw [cell_new _ _ _ _ _ (by simp)]; rfl, frozen_new _ _ _ _ _ (by simp), World.ownsRow_nil _ _ _ _, hb2⟩
  generalize ha : rsL P 64 = a at *
  generalize hb : rsL Q 64 = b at *
  have HX := Lib.hid (And.intro hA (And.intro hla (And.intro hB hlb)))
  have HM := Lib.hid hmg
  have HBX := Lib.hid hBX
  clear hA hB hla hlb ha hb hmg hb2 hBX
  go_enter Try.func35, Try.ntmps35
  go_wp2
  go_step3
  go_wp2
  go_step3
  go_wp2
  go_loopg [9, 10] (na + nb) (fun g1 v9 v10 wr => ∃ (i j t : Nat) (v : Value), i ≤ na ∧ j ≤ nb ∧ na - i + (nb - j) ≤ g1 ∧ v9 = .int .i64 (i : Int) ∧ v10 = .int .i64 (j : Int) ∧ MG P Q t (a.drop i) (b.drop j) ∧ BX w (.func (.func 37) #[] #[]) v (rsL (keepR k37 P Q) t) wr)
  case atStart => exact ⟨0, 0, 0, _, Nat.zero_le _, Nat.zero_le _, by omega, rfl, rfl, HM.out, HBX.out⟩
  case round =>
    obtain ⟨i, j, t, v, hi, hj, hg, rfl, rfl, hmg, hbx⟩ := hrel
    clear HM HBX
    have hpl := rsL_len (keepR k37 P Q) t
    have htl := hmg.le
    have ida : na ≤ i → a.drop i = [] := fun h => List.drop_eq_nil_of_le (by rw [HX.out.2.1]; exact h)
    have idb : nb ≤ j → b.drop j = [] := fun h => List.drop_eq_nil_of_le (by rw [HX.out.2.2.2]; exact h)
    have cda : i < na → a.drop i = a.getD i 0 :: a.drop (i + 1) := fun h => drop_at (by rw [HX.out.2.1]; exact h)
    have cdb : j < nb → b.drop j = b.getD j 0 :: b.drop (j + 1) := fun h => drop_at (by rw [HX.out.2.2.2]; exact h)
    have hnA := HX.out.1.kept hbx.bel
    have hnB := HX.out.2.2.1.kept hbx.bel
    by_cases hia : i < na
    · obtain ⟨bb, off, hAe, -, cA⟩ := num_at hnA (i := i) (by rw [HX.out.2.1]; exact hia)
      rw [cda hia] at hmg
      have n1 : ((i : Int) == (na : Int)) = false := by simp; omega
      have n3 : (i : Int) < (na : Int) := by omega
      have n4 : (0 : Int) ≤ (i : Int) := by omega
      by_cases hjb : j < nb
      · obtain ⟨cc, cof, hBe, -, cB⟩ := num_at hnB (i := j) (by rw [HX.out.2.2.2]; exact hjb)
        rw [cdb hjb] at hmg
        have n2 : ((j : Int) == (nb : Int)) = false := by simp; omega
        have n5 : (j : Int) < (nb : Int) := by omega
        have n6 : (0 : Int) ≤ (j : Int) := by omega
        have HDA := Lib.hid (cda hia)
        have HDB := Lib.hid (cdb hjb)
        clear ida idb cda cdb hnA hnB
        generalize a.getD i 0 = x at *
        generalize b.getD j 0 = y at *
        rcases Int.lt_trichotomy x y with hxy | hxy | hxy
        · obtain ⟨t', hmg', hrs⟩ := hmg.stepA (K := k37) (fun y' rb e => by have := (List.cons.inj e).1; omega)
          have htk := fun q => take37_any x true false w (wr.drewN q) v _ (hbx.kept (below_drewN wr q)) (by omega)
          rw [← hrs] at htk
          subst hAe
          subst hBe
          have HTK := Lib.hid htk
          have HMG := Lib.hid hmg'
          clear htk hmg hbx hrs hmg'
          go_wp2
          go_quiet (fail)
          go_wp2_with fail
          (with_reducible refine (HTK.out _).mono ?_)
          rintro e u1 ⟨rfl, v1, hb1⟩
          have HB1 := Lib.hid hb1
          clear hb1
          go_wp2
          go_roundg (gk - 1)
          case rel => exact ⟨i + 1, j, t', v1, by omega, hj, by omega, by go_num, rfl, by rw [HDB.out]; exact HMG.out, HB1.out⟩
          case measure => omega
        · subst hxy
          obtain ⟨t', hmg', hrs⟩ := hmg.stepAB (K := k37)
          have htk := fun q => take37_any x true true w (wr.drewN q) v _ (hbx.kept (below_drewN wr q)) (by omega)
          rw [← hrs] at htk
          subst hAe
          subst hBe
          have HTK := Lib.hid htk
          have HMG := Lib.hid hmg'
          clear htk hmg hbx hrs hmg'
          go_wp2
          go_quiet (fail)
          go_wp2
          go_quiet (fail)
          go_wp2_with fail
          (with_reducible refine (HTK.out _).mono ?_)
          rintro e u1 ⟨rfl, v1, hb1⟩
          have HB1 := Lib.hid hb1
          clear hb1
          go_wp2
          go_roundg (gk - 1)
          case rel => exact ⟨i + 1, j + 1, t', v1, by omega, by omega, by omega, by go_num, by go_num, HMG.out, HB1.out⟩
          case measure => omega
        · obtain ⟨t', hmg', hrs⟩ := hmg.stepB (K := k37) (fun x' ra e => by have := (List.cons.inj e).1; omega)
          have htk := fun q => take37_any y false true w (wr.drewN q) v _ (hbx.kept (below_drewN wr q)) (by omega)
          rw [← hrs] at htk
          subst hAe
          subst hBe
          have HTK := Lib.hid htk
          have HMG := Lib.hid hmg'
          clear htk hmg hbx hrs hmg'
          go_wp2
          go_quiet (fail)
          go_wp2
          go_quiet (fail)
          go_wp2_with fail
          (with_reducible refine (HTK.out _).mono ?_)
          rintro e u1 ⟨rfl, v1, hb1⟩
          have HB1 := Lib.hid hb1
          clear hb1
          go_wp2
          go_roundg (gk - 1)
          case rel => exact ⟨i, j + 1, t', v1, hi, by omega, by omega, rfl, by go_num, by rw [HDA.out]; exact HMG.out, HB1.out⟩
          case measure => omega
      · obtain rfl : j = nb := by omega
        rw [idb (Nat.le_refl _)] at hmg
        have HIB := Lib.hid (idb (Nat.le_refl _))
        have n2 : ((j : Int) == (j : Int)) = true := by simp
        clear ida idb cda cdb hnA hnB
        generalize a.getD i 0 = x at *
        obtain ⟨t', hmg', hrs⟩ := hmg.stepA (K := k37) (fun y' rb e => by cases e)
        have htk := fun q => take37_any x true false w (wr.drewN q) v _ (hbx.kept (below_drewN wr q)) (by omega)
        rw [← hrs] at htk
        subst hAe
        have HTK := Lib.hid htk
        have HMG := Lib.hid hmg'
        clear htk hmg hbx hrs hmg'
        go_wp2
        go_quiet (fail)
        go_wp2_with fail
        (with_reducible refine (HTK.out _).mono ?_)
        rintro e u1 ⟨rfl, v1, hb1⟩
        have HB1 := Lib.hid hb1
        clear hb1
        go_wp2
        go_roundg (gk - 1)
        case rel => exact ⟨i + 1, j, t', v1, by omega, hj, by omega, by go_num, rfl, by rw [HIB.out]; exact HMG.out, HB1.out⟩
        case measure => omega
    · obtain rfl : i = na := by omega
      rw [ida (Nat.le_refl _)] at hmg
      have n1 : ((i : Int) == (i : Int)) = true := by simp
      have n3 : ¬ (i : Int) < (i : Int) := by omega
      by_cases hjb : j < nb
      · obtain ⟨cc, cof, hBe, -, cB⟩ := num_at hnB (i := j) (by rw [HX.out.2.2.2]; exact hjb)
        rw [cdb hjb] at hmg
        have HIA := Lib.hid (ida (Nat.le_refl _))
        have n2 : ((j : Int) == (nb : Int)) = false := by simp; omega
        have n5 : (j : Int) < (nb : Int) := by omega
        have n6 : (0 : Int) ≤ (j : Int) := by omega
        clear ida idb cda cdb hnA hnB
        generalize b.getD j 0 = y at *
        obtain ⟨t', hmg', hrs⟩ := hmg.stepB (K := k37) (fun x' ra e => by cases e)
        have htk := fun q => take37_any y false true w (wr.drewN q) v _ (hbx.kept (below_drewN wr q)) (by omega)
        rw [← hrs] at htk
        subst hBe
        have HTK := Lib.hid htk
        have HMG := Lib.hid hmg'
        clear htk hmg hbx hrs hmg'
        go_wp2
        go_quiet (fail)
        go_wp2
        go_quiet (fail)
        go_wp2_with fail
        (with_reducible refine (HTK.out _).mono ?_)
        rintro e u1 ⟨rfl, v1, hb1⟩
        have HB1 := Lib.hid hb1
        clear hb1
        go_wp2
        go_roundg (gk - 1)
        case rel => exact ⟨i, j + 1, t', v1, hi, by omega, by omega, rfl, by go_num, by rw [HIA.out]; exact HMG.out, HB1.out⟩
        case measure => omega
      · obtain rfl : j = nb := by omega
        rw [idb (Nat.le_refl _)] at hmg
        have hst := hmg.stop (K := k37)
        have n2 : ((j : Int) == (j : Int)) = true := by simp
        have o0 := hbx.o0
        have HF := Lib.hid (And.intro hbx hst)
        clear hbx hst hmg ida idb cda cdb hnA hnB
        go_wp2
        try rw [Exit.noGoto_ret]
        go_ret
        exact ⟨_, rfl, own_mono (by rw [HF.out.2]; exact HF.out.1.own) (by omega), HF.out.1.bel⟩

theorem both_any (A B : Option Addr) (na nb ca cb : Nat) (P Q : Nat → Bool) (w : World) (hA : NumsAt .i64 w A (rsL P 64)) (hB : NumsAt .i64 w B (rsL Q 64)) (hla : (rsL P 64).length = na) (hlb : (rsL Q 64).length = nb) :
    Calls Try.prog 24 #[.slice A na ca, .slice B nb cb] w fun e u => ∃ v, e = .returned v ∧ OwnI w v (rsL (keepR k37 P Q) 64) u := by
  have h := beside37_any A B na nb ca cb P Q w hA hB hla hlb
  have H := Lib.hid h
  clear h hA hB hla hlb
  go_enter Try.func24, Try.ntmps24
  go_wp2_with fail
  (with_reducible refine H.out.mono ?_)
  rintro e u ⟨v, rfl, hI⟩
  have HI := Lib.hid hI
  clear hI
  go_wp2
  go_ret
  exact ⟨v, rfl, HI.out⟩

set_option maxHeartbeats 8000000 in
theorem beside38_any (A B : Option Addr) (na nb ca cb : Nat) (P Q : Nat → Bool) (w : World) (hA : NumsAt .i64 w A (rsL P 64)) (hB : NumsAt .i64 w B (rsL Q 64)) (hla : (rsL P 64).length = na) (hlb : (rsL Q 64).length = nb) :
    Calls Try.prog 35 #[.slice A na ca, .slice B nb cb, .func (.func 38) #[] #[]] w fun e u => ∃ v, e = .returned v ∧ OwnI w v (rsL (keepR k38 P Q) 64) u := by
  have hna := rsL_len P 64
  have hnb := rsL_len Q 64
  rw [hla] at hna
  rw [hlb] at hnb
  have hmg := MG.start P Q
  have hb2 := boxed2 w (.cells #[.func (.func 38) #[] #[]] 45) (.cells #[.slice none 0 0] 22)
  have hBX : BX w (.func (.func 38) #[] #[]) (.slice none 0 0) (rsL (keepR k38 P Q) 0) ((w.alloc (.cells #[.func (.func 38) #[] #[]] 45)).alloc (.cells #[.slice none 0 0] 22)) :=
    ⟨by rw [cell_old _ _ _ _ (by simp), cell_new _ _ _ _ _ rfl]; rfl, by rw [cell_new _ _ _ _ _ (by simp)]; rfl, frozen_new _ _ _ _ _ (by simp), World.ownsRow_nil _ _ _ _, hb2⟩
  generalize ha : rsL P 64 = a at *
  generalize hb : rsL Q 64 = b at *
  have HX := Lib.hid (And.intro hA (And.intro hla (And.intro hB hlb)))
  have HM := Lib.hid hmg
  have HBX := Lib.hid hBX
  clear hA hB hla hlb ha hb hmg hb2 hBX
  go_enter Try.func35, Try.ntmps35
  go_wp2
  go_step3
  go_wp2
  go_step3
  go_wp2
  go_loopg [9, 10] (na + nb) (fun g1 v9 v10 wr => ∃ (i j t : Nat) (v : Value), i ≤ na ∧ j ≤ nb ∧ na - i + (nb - j) ≤ g1 ∧ v9 = .int .i64 (i : Int) ∧ v10 = .int .i64 (j : Int) ∧ MG P Q t (a.drop i) (b.drop j) ∧ BX w (.func (.func 38) #[] #[]) v (rsL (keepR k38 P Q) t) wr)
  case atStart => exact ⟨0, 0, 0, _, Nat.zero_le _, Nat.zero_le _, by omega, rfl, rfl, HM.out, HBX.out⟩
  case round =>
    obtain ⟨i, j, t, v, hi, hj, hg, rfl, rfl, hmg, hbx⟩ := hrel
    clear HM HBX
    have hpl := rsL_len (keepR k38 P Q) t
    have htl := hmg.le
    have ida : na ≤ i → a.drop i = [] := fun h => List.drop_eq_nil_of_le (by rw [HX.out.2.1]; exact h)
    have idb : nb ≤ j → b.drop j = [] := fun h => List.drop_eq_nil_of_le (by rw [HX.out.2.2.2]; exact h)
    have cda : i < na → a.drop i = a.getD i 0 :: a.drop (i + 1) := fun h => drop_at (by rw [HX.out.2.1]; exact h)
    have cdb : j < nb → b.drop j = b.getD j 0 :: b.drop (j + 1) := fun h => drop_at (by rw [HX.out.2.2.2]; exact h)
    have hnA := HX.out.1.kept hbx.bel
    have hnB := HX.out.2.2.1.kept hbx.bel
    by_cases hia : i < na
    · obtain ⟨bb, off, hAe, -, cA⟩ := num_at hnA (i := i) (by rw [HX.out.2.1]; exact hia)
      rw [cda hia] at hmg
      have n1 : ((i : Int) == (na : Int)) = false := by simp; omega
      have n3 : (i : Int) < (na : Int) := by omega
      have n4 : (0 : Int) ≤ (i : Int) := by omega
      by_cases hjb : j < nb
      · obtain ⟨cc, cof, hBe, -, cB⟩ := num_at hnB (i := j) (by rw [HX.out.2.2.2]; exact hjb)
        rw [cdb hjb] at hmg
        have n2 : ((j : Int) == (nb : Int)) = false := by simp; omega
        have n5 : (j : Int) < (nb : Int) := by omega
        have n6 : (0 : Int) ≤ (j : Int) := by omega
        have HDA := Lib.hid (cda hia)
        have HDB := Lib.hid (cdb hjb)
        clear ida idb cda cdb hnA hnB
        generalize a.getD i 0 = x at *
        generalize b.getD j 0 = y at *
        rcases Int.lt_trichotomy x y with hxy | hxy | hxy
        · obtain ⟨t', hmg', hrs⟩ := hmg.stepA (K := k38) (fun y' rb e => by have := (List.cons.inj e).1; omega)
          have htk := fun q => take38_any x true false w (wr.drewN q) v _ (hbx.kept (below_drewN wr q)) (by omega)
          rw [← hrs] at htk
          subst hAe
          subst hBe
          have HTK := Lib.hid htk
          have HMG := Lib.hid hmg'
          clear htk hmg hbx hrs hmg'
          go_wp2
          go_quiet (fail)
          go_wp2_with fail
          (with_reducible refine (HTK.out _).mono ?_)
          rintro e u1 ⟨rfl, v1, hb1⟩
          have HB1 := Lib.hid hb1
          clear hb1
          go_wp2
          go_roundg (gk - 1)
          case rel => exact ⟨i + 1, j, t', v1, by omega, hj, by omega, by go_num, rfl, by rw [HDB.out]; exact HMG.out, HB1.out⟩
          case measure => omega
        · subst hxy
          obtain ⟨t', hmg', hrs⟩ := hmg.stepAB (K := k38)
          have htk := fun q => take38_any x true true w (wr.drewN q) v _ (hbx.kept (below_drewN wr q)) (by omega)
          rw [← hrs] at htk
          subst hAe
          subst hBe
          have HTK := Lib.hid htk
          have HMG := Lib.hid hmg'
          clear htk hmg hbx hrs hmg'
          go_wp2
          go_quiet (fail)
          go_wp2
          go_quiet (fail)
          go_wp2_with fail
          (with_reducible refine (HTK.out _).mono ?_)
          rintro e u1 ⟨rfl, v1, hb1⟩
          have HB1 := Lib.hid hb1
          clear hb1
          go_wp2
          go_roundg (gk - 1)
          case rel => exact ⟨i + 1, j + 1, t', v1, by omega, by omega, by omega, by go_num, by go_num, HMG.out, HB1.out⟩
          case measure => omega
        · obtain ⟨t', hmg', hrs⟩ := hmg.stepB (K := k38) (fun x' ra e => by have := (List.cons.inj e).1; omega)
          have htk := fun q => take38_any y false true w (wr.drewN q) v _ (hbx.kept (below_drewN wr q)) (by omega)
          rw [← hrs] at htk
          subst hAe
          subst hBe
          have HTK := Lib.hid htk
          have HMG := Lib.hid hmg'
          clear htk hmg hbx hrs hmg'
          go_wp2
          go_quiet (fail)
          go_wp2
          go_quiet (fail)
          go_wp2_with fail
          (with_reducible refine (HTK.out _).mono ?_)
          rintro e u1 ⟨rfl, v1, hb1⟩
          have HB1 := Lib.hid hb1
          clear hb1
          go_wp2
          go_roundg (gk - 1)
          case rel => exact ⟨i, j + 1, t', v1, hi, by omega, by omega, rfl, by go_num, by rw [HDA.out]; exact HMG.out, HB1.out⟩
          case measure => omega
      · obtain rfl : j = nb := by omega
        rw [idb (Nat.le_refl _)] at hmg
        have HIB := Lib.hid (idb (Nat.le_refl _))
        have n2 : ((j : Int) == (j : Int)) = true := by simp
        clear ida idb cda cdb hnA hnB
        generalize a.getD i 0 = x at *
        obtain ⟨t', hmg', hrs⟩ := hmg.stepA (K := k38) (fun y' rb e => by cases e)
        have htk := fun q => take38_any x true false w (wr.drewN q) v _ (hbx.kept (below_drewN wr q)) (by omega)
        rw [← hrs] at htk
        subst hAe
        have HTK := Lib.hid htk
        have HMG := Lib.hid hmg'
        clear htk hmg hbx hrs hmg'
        go_wp2
        go_quiet (fail)
        go_wp2_with fail
        (with_reducible refine (HTK.out _).mono ?_)
        rintro e u1 ⟨rfl, v1, hb1⟩
        have HB1 := Lib.hid hb1
        clear hb1
        go_wp2
        go_roundg (gk - 1)
        case rel => exact ⟨i + 1, j, t', v1, by omega, hj, by omega, by go_num, rfl, by rw [HIB.out]; exact HMG.out, HB1.out⟩
        case measure => omega
    · obtain rfl : i = na := by omega
      rw [ida (Nat.le_refl _)] at hmg
      have n1 : ((i : Int) == (i : Int)) = true := by simp
      have n3 : ¬ (i : Int) < (i : Int) := by omega
      by_cases hjb : j < nb
      · obtain ⟨cc, cof, hBe, -, cB⟩ := num_at hnB (i := j) (by rw [HX.out.2.2.2]; exact hjb)
        rw [cdb hjb] at hmg
        have HIA := Lib.hid (ida (Nat.le_refl _))
        have n2 : ((j : Int) == (nb : Int)) = false := by simp; omega
        have n5 : (j : Int) < (nb : Int) := by omega
        have n6 : (0 : Int) ≤ (j : Int) := by omega
        clear ida idb cda cdb hnA hnB
        generalize b.getD j 0 = y at *
        obtain ⟨t', hmg', hrs⟩ := hmg.stepB (K := k38) (fun x' ra e => by cases e)
        have htk := fun q => take38_any y false true w (wr.drewN q) v _ (hbx.kept (below_drewN wr q)) (by omega)
        rw [← hrs] at htk
        subst hBe
        have HTK := Lib.hid htk
        have HMG := Lib.hid hmg'
        clear htk hmg hbx hrs hmg'
        go_wp2
        go_quiet (fail)
        go_wp2
        go_quiet (fail)
        go_wp2_with fail
        (with_reducible refine (HTK.out _).mono ?_)
        rintro e u1 ⟨rfl, v1, hb1⟩
        have HB1 := Lib.hid hb1
        clear hb1
        go_wp2
        go_roundg (gk - 1)
        case rel => exact ⟨i, j + 1, t', v1, hi, by omega, by omega, rfl, by go_num, by rw [HIA.out]; exact HMG.out, HB1.out⟩
        case measure => omega
      · obtain rfl : j = nb := by omega
        rw [idb (Nat.le_refl _)] at hmg
        have hst := hmg.stop (K := k38)
        have n2 : ((j : Int) == (j : Int)) = true := by simp
        have o0 := hbx.o0
        have HF := Lib.hid (And.intro hbx hst)
        clear hbx hst hmg ida idb cda cdb hnA hnB
        go_wp2
        try rw [Exit.noGoto_ret]
        go_ret
        exact ⟨_, rfl, own_mono (by rw [HF.out.2]; exact HF.out.1.own) (by omega), HF.out.1.bel⟩

theorem without_any (A B : Option Addr) (na nb ca cb : Nat) (P Q : Nat → Bool) (w : World) (hA : NumsAt .i64 w A (rsL P 64)) (hB : NumsAt .i64 w B (rsL Q 64)) (hla : (rsL P 64).length = na) (hlb : (rsL Q 64).length = nb) :
    Calls Try.prog 25 #[.slice A na ca, .slice B nb cb] w fun e u => ∃ v, e = .returned v ∧ OwnI w v (rsL (keepR k38 P Q) 64) u := by
  have h := beside38_any A B na nb ca cb P Q w hA hB hla hlb
  have H := Lib.hid h
  clear h hA hB hla hlb
  go_enter Try.func25, Try.ntmps25
  go_wp2_with fail
  (with_reducible refine H.out.mono ?_)
  rintro e u ⟨v, rfl, hI⟩
  have HI := Lib.hid hI
  clear hI
  go_wp2
  go_ret
  exact ⟨v, rfl, HI.out⟩

end Go.Proofs.Ytjijkiafjlfeiaa

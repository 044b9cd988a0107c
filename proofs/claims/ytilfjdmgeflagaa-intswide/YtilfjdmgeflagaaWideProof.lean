/- What is proved: for every two numbers the law IntsWide returns true: the width of a number is how often it can be halved, and below it there is none that is as great. Conditions: none. -/
import Derived.Test.YtilfjdmgeflagaaWide
namespace Go.Proofs.Ytilfjdmgeflagaa
open Go.ChangeShapes Go.WideShapes Go.ChangeAt Go.RowKit

theorem intsWide_walk (n y : Int) (w : World) (hn : -9223372036854775808 ≤ n ∧ n ≤ 9223372036854775807) :
    Calls Try.prog 8 #[.int .i64 n, .int .i64 y] w fun e w' => e = .returned (.bool true) ∧ Below w.heap.size w w' := by
  by_cases h : n < 1
  · exact wide_low n y w h
  · obtain ⟨m, rfl⟩ := Int.eq_ofNat_of_zero_le (a := n) (by omega)
    obtain ⟨k, hk, h1, h2⟩ := wid_pos m (by omega)
    have h63 := wid_63 (m : Int) hn.2
    rw [Int.toNat_natCast] at h63
    have t1 := Int.tmod_lt_of_pos y (b := 63) (by omega)
    have t2 := Int.lt_tmod_of_pos y (b := 63) (by omega)
    by_cases h0 : 0 ≤ y.tmod 63
    · obtain ⟨v, hv⟩ := Int.eq_ofNat_of_zero_le h0
      exact wide_high m y m k v w rfl hn.2 hk (by omega) (shr_top m k h1 h2) (by omega) (by omega) hv
    · obtain ⟨v, hv⟩ := Int.eq_ofNat_of_zero_le (a := -(y.tmod 63)) (by omega)
      exact wide_high_neg m y m k v w rfl hn.2 hk (by omega) (shr_top m k h1 h2) (by omega) (by omega) (by omega) (by omega)

set_option maxRecDepth 100000 in
theorem intsWide_lifted (os : Os) (started : os.Started) (H : Type) (enc : TypeId × Value → H) :
    ReturnsInHanded {} Try.checked os 8 .any (Rows.intsWideSpec.pre6 enc Try.prog Try.f8 Rows.intsWideRow.domain false) (Rows.intsWideSpec.post enc Try.prog Try.f8 false true false false) := by
  refine returnsInHanded_of_change (C := Try.checked) own started (by kernel_rfl) Try.func8
    (ChangeSpec.witness6 (enc := enc) (C := Try.checked) false ⟨#[], #[.int .i64 0, .int .i64 0], []⟩ 8 (by kernel_rfl) (by kernel_rfl) (by kernel_rfl) (by kernel_rfl)) ?_
  intro W base args ds gs before hval0 hW hcnd _
  have hval : ∀ (j : Nat) t v, Try.f8.params[j]? = some t → args[j]? = some v → Value.okWide Try.prog W .any base t v := hval0
  have hW' := hW
  obtain ⟨p, q, hA0, hV, rfl, hfz, hnd⟩ := hW
  have hA : DataW.TrodAll enc Try.prog W 0 (fun _ => true) true Try.f8.params.toList args.toList ds p := hA0
  rw [Try.params8] at hA hval
  obtain ⟨v0, vs0, d0, ds0, p0, q0, hargs, rfl, rfl, h0, r0⟩ := trodAll_cons hA
  obtain ⟨v1, vs1, d1, ds1, p1, q1, rfl, rfl, rfl, h1, r1⟩ := trodAll_cons r0
  obtain ⟨rfl, rfl, rfl⟩ := trodAll_nil r1
  obtain rfl : args = #[v0, v1] := by cases args; simp_all
  obtain ⟨rfl, rfl⟩ := trodVars_none hV
  obtain ⟨a0, rfl, rfl, rfl, w0⟩ := open_int Try.underlying3 (hval 0 3 v0 rfl rfl) h0
  obtain ⟨a1, rfl, rfl, rfl, w1⟩ := open_int Try.underlying3 (hval 1 3 v1 rfl rfl) h1
  clear hA0 hval0
  refine (intsWide_walk a0 a1 W (bounds_i64 w0)).mono fun e W' ⟨he, bel⟩ => ?_
  subst he
  exact ⟨_, rfl, _, _, _, [], _, [], hW', trodAll_mk1 (shut_bool Try.underlying4 _), (trodAll_cons_mk (shut_int Try.underlying3 w0) (trodAll_cons_mk (shut_int Try.underlying3 w1) trodAll_mk0)), rfl, bel.frame _, fun h => by cases h⟩

theorem intsWide_holds : Rows.IntsWideSaid :=
  OpenClaim.holds_of_wide 8 Try.f8 rfl rfl rfl rfl rfl rfl rfl ⟨rfl, rfl, rfl, rfl, rfl⟩ rfl rfl rfl rfl rfl (by kernel_rfl) Try.func8 (by kernel_rfl)
    (of_decide_eq_true (by kernel_rfl)) (by unfold Func.isWrapper; first | (rw [if_pos (by decide +kernel)]; kernel_rfl) | (rw [if_neg (by decide +kernel)]; exact ⟨rfl, rfl⟩))
    (fun os started H enc _ => intsWide_lifted os started H enc)

#print axioms intsWide_holds
end Go.Proofs.Ytilfjdmgeflagaa

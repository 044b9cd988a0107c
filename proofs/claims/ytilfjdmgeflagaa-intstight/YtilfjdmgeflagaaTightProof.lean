/- What is proved: for every slice of numbers the law IntsTight returns true and leaves it as it was: a tight row is as narrow as it can be, one narrower cannot be, and it is read again as it was written. Conditions: none. -/
import Derived.Test.YtilfjdmgeflagaaTight
namespace Go.Proofs.Ytilfjdmgeflagaa
open Go.ChangeShapes Go.WideShapes Go.ChangeAt Go.RowKit

theorem intsTight_walk (a1 : Option Addr) (n1 c1 : Nat) (xs : List Int) (w : World) (e1 : xs.length = n1) (k1 : n1 ≤ c1) (m1 : c1 ≤ maxLen) (h1 : NumsAt .i64 w a1 xs) :
    Calls Try.prog 5 #[.slice a1 n1 c1] w fun e w' => e = .returned (.bool true) ∧ Below w.heap.size w w' := by
  unfold maxLen at m1
  exact tight_walk a1 n1 c1 xs w e1 (by omega) h1

set_option maxRecDepth 100000 in
theorem intsTight_lifted (os : Os) (started : os.Started) (H : Type) (enc : TypeId × Value → H) :
    ReturnsInHanded {} Try.checked os 5 .any (Rows.intsTightSpec.pre6 enc Try.prog Try.f5 Rows.intsTightRow.domain false) (Rows.intsTightSpec.post enc Try.prog Try.f5 false true false false) := by
  refine returnsInHanded_of_change (C := Try.checked) own started (by kernel_rfl) Try.func5
    (ChangeSpec.witness6 (enc := enc) (C := Try.checked) false ⟨#[], #[.slice none 0 0], []⟩ 8 (by kernel_rfl) (by kernel_rfl) (by kernel_rfl) (by kernel_rfl)) ?_
  intro W base args ds gs before hval0 hW hcnd _
  have hval : ∀ (j : Nat) t v, Try.f5.params[j]? = some t → args[j]? = some v → Value.okWide Try.prog W .any base t v := hval0
  have hW' := hW
  obtain ⟨p, q, hA0, hV, rfl, hfz, hnd⟩ := hW
  have hA : DataW.TrodAll enc Try.prog W 0 (fun _ => true) true Try.f5.params.toList args.toList ds p := hA0
  rw [Try.params5] at hA hval
  obtain ⟨v0, vs0, d0, ds0, p0, q0, hargs, rfl, rfl, h0, r0⟩ := trodAll_cons hA
  obtain ⟨rfl, rfl, rfl⟩ := trodAll_nil r0
  obtain rfl : args = #[v0] := by cases args; simp_all
  obtain ⟨rfl, rfl⟩ := trodVars_none hV
  obtain ⟨a0, len0, cap0, rfl⟩ := okWide_slice Try.underlying22 (hval 0 22 v0 rfl rfl)
  have k0 := h0
  have lt0 : ∀ x ∈ p0, x.block < W.heap.size := by obtain ⟨m, hm⟩ := k0; exact DataW.trod_lt m _ _ _ hm
  obtain ⟨l0, e0, f0, g0, b0, x0⟩ := nums_in2 Try.underlying22 Try.underlying3 cells3 h0
  clear hA0 hval0
  refine (intsTight_walk a0 len0 cap0 l0 W e0 f0 g0 b0).mono fun e W' ⟨he, bel⟩ => ?_
  subst he
  exact ⟨_, rfl, _, _, _, [], _, [], hW', trodAll_mk1 (shut_bool Try.underlying4 _), (trodAll_cons_mk (Below.trod laidOut (by kernel_rfl) (of_decide_eq_true (by kernel_rfl)) k0 bel lt0) trodAll_mk0), rfl, bel.frame _, fun h => by cases h⟩

theorem intsTight_holds : Rows.IntsTightSaid :=
  OpenClaim.holds_of_wide 5 Try.f5 rfl rfl rfl rfl rfl rfl rfl ⟨rfl, rfl, rfl, rfl, rfl⟩ rfl rfl rfl rfl rfl (by kernel_rfl) Try.func5 (by kernel_rfl)
    (of_decide_eq_true (by kernel_rfl)) (by unfold Func.isWrapper; first | (rw [if_pos (by decide +kernel)]; kernel_rfl) | (rw [if_neg (by decide +kernel)]; exact ⟨rfl, rfl⟩))
    (fun os started H enc _ => intsTight_lifted os started H enc)

#print axioms intsTight_holds
end Go.Proofs.Ytilfjdmgeflagaa

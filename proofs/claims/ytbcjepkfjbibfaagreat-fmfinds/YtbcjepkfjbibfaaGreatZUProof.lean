/- What is proved: for every two slices of numbers and every struct of a size, a bool and two numbers the law FmFinds returns true and leaves them as they were: where rows stand and what stands where is as the document says. Conditions: none. -/
import Derived.Lib.SmallJoins
import Derived.Test.YtbcjepkfjbibfaaGreatRows
import Derived.Test.YtbcjepkfjbibfaaGreatZU
namespace Go.Proofs.YtbcjepkfjbibfaaGreat
open Go.ChangeShapes Go.WideShapes Go.ChangeAt Go.RowKit

set_option maxRecDepth 100000
theorem cells57 : Tryz.prog.cellsOf 57 = 4 := by kernel_rfl
theorem ask4_in {H : Type} {enc : TypeId × Value → H} {W : World} {r : Reach} {b0 : Nat} {v : Value} {x : DataW H} {pl : List MemPlace}
    (hv : Value.okWide Tryz.prog W r b0 57 v) (h : DataW.Trod enc Tryz.prog W 0 (fun _ => true) true 57 v x pl) :
    ∃ (s : Int) (raw : Bool) (f m : Int), v = .agg #[.int .i64 s, .bool raw, .int .i64 f, .int .i64 m] ∧ (-9223372036854775808 ≤ f ∧ f ≤ 9223372036854775807) ∧ (-9223372036854775808 ≤ m ∧ m ≤ 9223372036854775807) := by
  obtain ⟨v0, v1, v2, v3, y0, y1, y2, y3, fuel, rfl, -, -, h0, h1, h2, h3⟩ := Go.Joins.open_agg4 Tryz.underlying57 (by kernel_rfl) cells57 hv h
  obtain ⟨s, z0, -, -⟩ := DataW.trod_int Tryz.underlying3 h0
  obtain ⟨b, z1, -⟩ := DataW.trod_bool Tryz.underlying4 h1
  obtain ⟨f, z2, -, u2⟩ := DataW.trod_int Tryz.underlying3 h2
  obtain ⟨m, z3, -, u3⟩ := DataW.trod_int Tryz.underlying3 h3
  simp at z0 z1 z2 z3
  subst z0 z1 z2 z3
  exact ⟨s, b, f, m, rfl, bounds_i64 u2, bounds_i64 u3⟩

set_option maxRecDepth 100000 in
theorem fmFinds_lifted (os : Os) (started : os.Started) (H : Type) (enc : TypeId × Value → H) :
    ReturnsInHanded {} Tryz.checked os 4 .any (Rows.fmFindsSpec.pre6 enc Tryz.prog Tryz.f4 Rows.fmFindsRow.domain false) (Rows.fmFindsSpec.post enc Tryz.prog Tryz.f4 false true false false) := by
  refine returnsInHanded_of_change (C := Tryz.checked) own started (by kernel_rfl) Tryz.func4
    (ChangeSpec.witness6 (enc := enc) (C := Tryz.checked) false ⟨#[], #[.slice none 0 0, .slice none 0 0, .agg #[.int .i64 0, .bool false, .int .i64 0, .int .i64 0]], []⟩ 8 (by kernel_rfl) (by kernel_rfl) (by kernel_rfl) (by kernel_rfl)) ?_
  intro W base args ds gs before hval0 hW hcnd _
  have hval : ∀ (j : Nat) t v, Tryz.f4.params[j]? = some t → args[j]? = some v → Value.okWide Tryz.prog W .any base t v := hval0
  have hW' := hW
  obtain ⟨p, q, hA0, hV, rfl, hfz, hnd⟩ := hW
  have hA : DataW.TrodAll enc Tryz.prog W 0 (fun _ => true) true Tryz.f4.params.toList args.toList ds p := hA0
  rw [Tryz.params4] at hA hval
  obtain ⟨v0, vs0, d0, ds0, p0, q0, hargs, rfl, rfl, h0, r0⟩ := trodAll_cons hA
  obtain ⟨v1, vs1, d1, ds1, p1, q1, rfl, rfl, rfl, h1, r1⟩ := trodAll_cons r0
  obtain ⟨v2, vs2, d2, ds2, p2, q2, rfl, rfl, rfl, h2, r2⟩ := trodAll_cons r1
  obtain ⟨rfl, rfl, rfl⟩ := trodAll_nil r2
  obtain rfl : args = #[v0, v1, v2] := by cases args; simp_all
  obtain ⟨rfl, rfl⟩ := trodVars_none hV
  obtain ⟨a0, len0, cap0, rfl⟩ := okWide_slice Tryz.underlying22 (hval 0 22 v0 rfl rfl)
  have k0 := h0
  have lt0 : ∀ x ∈ p0, x.block < W.heap.size := by obtain ⟨m, hm⟩ := k0; exact DataW.trod_lt m _ _ _ hm
  obtain ⟨l0, e0, f0, g0, b0, x0⟩ := nums_in2 Tryz.underlying22 Tryz.underlying3 cells3 h0
  obtain ⟨a1, len1, cap1, rfl⟩ := okWide_slice Tryz.underlying22 (hval 1 22 v1 rfl rfl)
  have k1 := h1
  have lt1 : ∀ x ∈ p1, x.block < W.heap.size := by obtain ⟨m, hm⟩ := k1; exact DataW.trod_lt m _ _ _ hm
  obtain ⟨l1, e1, f1, g1, b1, x1⟩ := nums_in2 Tryz.underlying22 Tryz.underlying3 cells3 h1
  have k2 := h2
  have lt2 : ∀ x ∈ p2, x.block < W.heap.size := by obtain ⟨m, hm⟩ := k2; exact DataW.trod_lt m _ _ _ hm
  obtain ⟨as2, ar2, af2, am2, rfl, af2', am2'⟩ := ask4_in (hval 2 57 v2 rfl rfl) h2
  clear hA0 hval0
  refine (finds_walk a0 a1 len0 cap0 len1 cap1 l0 l1 as2 af2 am2 ar2 W b0 e0 b1 e1 f1 am2'.2 am2'.1).mono fun e W' ⟨he, bel⟩ => ?_
  subst he
  exact ⟨_, rfl, _, _, _, [], _, [], hW', trodAll_mk1 (shut_bool Tryz.underlying4 _), (trodAll_cons_mk (Below.trod laidOut (by kernel_rfl) (of_decide_eq_true (by kernel_rfl)) k0 bel lt0) (trodAll_cons_mk (Below.trod laidOut (by kernel_rfl) (of_decide_eq_true (by kernel_rfl)) k1 bel lt1) (trodAll_cons_mk (Below.trod laidOut (by kernel_rfl) (of_decide_eq_true (by kernel_rfl)) k2 bel lt2) trodAll_mk0))), rfl, bel.frame _, fun h => by cases h⟩

theorem fmFinds_holds : Rows.FmFindsSaid :=
  OpenClaim.holds_of_wide 4 Tryz.f4 rfl rfl rfl rfl rfl rfl rfl ⟨rfl, rfl, rfl, rfl, rfl⟩ rfl rfl rfl rfl rfl (by kernel_rfl) Tryz.func4 (by kernel_rfl)
    (of_decide_eq_true (by kernel_rfl)) (by unfold Func.isWrapper; first | (rw [if_pos (by decide +kernel)]; kernel_rfl) | (rw [if_neg (by decide +kernel)]; exact ⟨rfl, rfl⟩))
    (fun os started H enc _ => fmFinds_lifted os started H enc)

#print axioms fmFinds_holds
end Go.Proofs.YtbcjepkfjbibfaaGreat

/- What is proved: for every two slices of bytes and every pair of numbers the law IntsSame returns true and leaves them as they were: two rows of numbers are the same just if they are as long, as wide, and each number is. Conditions: none. -/
import Derived.Test.YtilfjdmgeflagaaSame
namespace Go.Proofs.Ytilfjdmgeflagaa
open Go.ChangeShapes Go.WideShapes Go.ChangeAt Go.RowKit

theorem mask15 (x : Int) : ∃ V : Nat, bits .and .i64 x 15 = (V : Int) ∧ V ≤ 15 := by
  have h := and_mask x 4 (by omega)
  have h2 := mask_lt x 4
  refine ⟨(x % ((2 ^ 4 : Nat) : Int)).toNat, ?_, by omega⟩
  rw [Int.toNat_of_nonneg h2.1]
  exact h

theorem u8s_of {xs : List Int} (h : ∀ n ∈ xs, (Lit.int .u8 n).wf = true) : U8s xs := fun x hx => by
  have := h x hx
  simp only [Lit.wf, Bool.and_eq_true, decide_eq_true_eq] at this
  exact ⟨this.1, this.2⟩

theorem intsSame_walk (a1 a2 : Option Addr) (n1 n2 c1 c2 : Nat) (xs ys : List Int) (x y : Int) (w : World) (e1 : xs.length = n1) (e2 : ys.length = n2) (k1 : n1 ≤ c1) (k2 : n2 ≤ c2) (m1 : c1 ≤ maxLen) (m2 : c2 ≤ maxLen)
    (h1 : NumsAt .u8 w a1 xs) (h2 : NumsAt .u8 w a2 ys) (hx : ∀ n ∈ xs, (Lit.int .u8 n).wf = true) (hy : ∀ n ∈ ys, (Lit.int .u8 n).wf = true) :
    Calls Try.prog 7 #[.slice a1 n1 c1, .slice a2 n2 c2, .agg #[.int .i64 x, .int .i64 y]] w fun e w' => e = .returned (.bool true) ∧ Below w.heap.size w w' := by
  obtain ⟨V, hV, hV2⟩ := mask15 x
  obtain ⟨Z, hZ, hZ2⟩ := mask15 y
  unfold maxLen at m1 m2
  exact same_walk a1 a2 n1 n2 c1 c2 xs ys x y V Z w e1 e2 (by omega) (by omega) h1 h2 (u8s_of hx) (u8s_of hy) hV hZ hV2 hZ2

set_option maxRecDepth 100000 in
theorem intsSame_lifted (os : Os) (started : os.Started) (H : Type) (enc : TypeId × Value → H) :
    ReturnsInHanded {} Try.checked os 7 .any (Rows.intsSameSpec.pre6 enc Try.prog Try.f7 Rows.intsSameRow.domain false) (Rows.intsSameSpec.post enc Try.prog Try.f7 false true false false) := by
  refine returnsInHanded_of_change (C := Try.checked) own started (by kernel_rfl) Try.func7
    (ChangeSpec.witness6 (enc := enc) (C := Try.checked) false ⟨#[], #[.slice none 0 0, .slice none 0 0, .agg #[.int .i64 0, .int .i64 0]], []⟩ 8 (by kernel_rfl) (by kernel_rfl) (by kernel_rfl) (by kernel_rfl)) ?_
  intro W base args ds gs before hval0 hW hcnd _
  have hval : ∀ (j : Nat) t v, Try.f7.params[j]? = some t → args[j]? = some v → Value.okWide Try.prog W .any base t v := hval0
  have hW' := hW
  obtain ⟨p, q, hA0, hV, rfl, hfz, hnd⟩ := hW
  have hA : DataW.TrodAll enc Try.prog W 0 (fun _ => true) true Try.f7.params.toList args.toList ds p := hA0
  rw [Try.params7] at hA hval
  obtain ⟨v0, vs0, d0, ds0, p0, q0, hargs, rfl, rfl, h0, r0⟩ := trodAll_cons hA
  obtain ⟨v1, vs1, d1, ds1, p1, q1, rfl, rfl, rfl, h1, r1⟩ := trodAll_cons r0
  obtain ⟨v2, vs2, d2, ds2, p2, q2, rfl, rfl, rfl, h2, r2⟩ := trodAll_cons r1
  obtain ⟨rfl, rfl, rfl⟩ := trodAll_nil r2
  obtain rfl : args = #[v0, v1, v2] := by cases args; simp_all
  obtain ⟨rfl, rfl⟩ := trodVars_none hV
  obtain ⟨a0, len0, cap0, rfl⟩ := okWide_slice Try.underlying55 (hval 0 55 v0 rfl rfl)
  have k0 := h0
  have lt0 : ∀ x ∈ p0, x.block < W.heap.size := by obtain ⟨m, hm⟩ := k0; exact DataW.trod_lt m _ _ _ hm
  obtain ⟨l0, e0, f0, g0, b0, x0⟩ := nums_in2 Try.underlying55 Try.underlying5 cells5 h0
  obtain ⟨a1, len1, cap1, rfl⟩ := okWide_slice Try.underlying55 (hval 1 55 v1 rfl rfl)
  have k1 := h1
  have lt1 : ∀ x ∈ p1, x.block < W.heap.size := by obtain ⟨m, hm⟩ := k1; exact DataW.trod_lt m _ _ _ hm
  obtain ⟨l1, e1, f1, g1, b1, x1⟩ := nums_in2 Try.underlying55 Try.underlying5 cells5 h1
  obtain ⟨cs2, rfl, hsz2, _⟩ : ∃ cs, v2 = .agg cs ∧ cs.size = Try.prog.cellsOf 23 ∧ Row.okWide Try.prog W .any base 23 cs := by
    have := hval 2 23 v2 rfl rfl
    simpa [Value.okWide, Try.underlying23] using this
  rw [cells23] at hsz2
  obtain ⟨c02, c12, rfl⟩ := arr_two hsz2
  have k2 := h2
  have lt2 : ∀ x ∈ p2, x.block < W.heap.size := by obtain ⟨m, hm⟩ := k2; exact DataW.trod_lt m _ _ _ hm
  obtain ⟨fuel2, hf2⟩ := h2
  obtain ⟨y02, y12, m2, hy02, hy12⟩ := pair_in Try.underlying23 cells3 hf2
  obtain ⟨x2, z02, rfl, u2⟩ := DataW.trod_int Try.underlying3 hy02
  obtain ⟨x2', z12, rfl, u2'⟩ := DataW.trod_int Try.underlying3 hy12
  simp at z02 z12
  subst z02 z12
  clear hA0 hval0
  refine (intsSame_walk a0 a1 len0 len1 cap0 cap1 l0 l1 x2 x2' W e0 e1 f0 f1 g0 g1 b0 b1 x0 x1).mono fun e W' ⟨he, bel⟩ => ?_
  subst he
  exact ⟨_, rfl, _, _, _, [], _, [], hW', trodAll_mk1 (shut_bool Try.underlying4 _), (trodAll_cons_mk (Below.trod laidOut (by kernel_rfl) (of_decide_eq_true (by kernel_rfl)) k0 bel lt0) (trodAll_cons_mk (Below.trod laidOut (by kernel_rfl) (of_decide_eq_true (by kernel_rfl)) k1 bel lt1) (trodAll_cons_mk (Below.trod laidOut (by kernel_rfl) (of_decide_eq_true (by kernel_rfl)) k2 bel lt2) trodAll_mk0))), rfl, bel.frame _, fun h => by cases h⟩

theorem intsSame_holds : Rows.IntsSameSaid :=
  OpenClaim.holds_of_wide 7 Try.f7 rfl rfl rfl rfl rfl rfl rfl ⟨rfl, rfl, rfl, rfl, rfl⟩ rfl rfl rfl rfl rfl (by kernel_rfl) Try.func7 (by kernel_rfl)
    (of_decide_eq_true (by kernel_rfl)) (by unfold Func.isWrapper; first | (rw [if_pos (by decide +kernel)]; kernel_rfl) | (rw [if_neg (by decide +kernel)]; exact ⟨rfl, rfl⟩))
    (fun os started H enc _ => intsSame_lifted os started H enc)

#print axioms intsSame_holds
end Go.Proofs.Ytilfjdmgeflagaa

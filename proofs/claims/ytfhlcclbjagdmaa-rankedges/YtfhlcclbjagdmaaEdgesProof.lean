/- What is proved: for every row and every number the law RankEdges returns true: what is ahead of all is none, what is ahead of the end all; there is no bit before the first one, nor behind the last one. Conditions: none. -/
import Derived.Test.YtfhlcclbjagdmaaRows
import Derived.Test.YtfhlcclbjagdmaaEdgesH
namespace Go.Proofs.Ytfhlcclbjagdmaa
open Go.ChangeShapes Go.WideShapes Go.ChangeAt Go.RowKit

open M in
theorem edges_walk (A : Option Addr) (n c : Nat) (B : Option Addr) (m d : Nat) (bs : List Bool) (ts : List Int) (i : Int) (w : World) (hA : BoolsAt w A bs) (hbs : bs.length = n) (hB : NumsAt .i64 w B ts) (hts : ts.length = m) (hi1 : -9223372036854775808 ≤ i) :
    Calls Try.prog 6 #[.agg #[.slice A n c, .slice B m d], .int .i64 i] w fun e w' => e = .returned (.bool true) ∧ Below w.heap.size w w' := by
  by_cases h : i < 0
  · exact edges_low A n c B m d bs ts i w hA hbs hB hts hi1 h
  · exact edges_rest A n c B m d bs ts i w hA hbs hB hts hi1 (by omega)

set_option maxRecDepth 100000 in
theorem rankEdges_lifted (os : Os) (started : os.Started) (H : Type) (enc : TypeId × Value → H) :
    ReturnsInHanded {} Try.checked os 6 .any (Rows.rankEdgesSpec.pre6 enc Try.prog Try.f6 Rows.rankEdgesRow.domain false) (Rows.rankEdgesSpec.post enc Try.prog Try.f6 false true false false) := by
  refine returnsInHanded_of_change (C := Try.checked) own started (by kernel_rfl) Try.func6
    (ChangeSpec.witness6 (enc := enc) (C := Try.checked) false ⟨#[], #[.agg #[.slice none 0 0, .slice none 0 0], .int .i64 0], []⟩ 8 (by kernel_rfl) (by kernel_rfl) (by kernel_rfl) (by kernel_rfl)) ?_
  intro W base args ds gs before hval0 hW hcnd _
  have hval : ∀ (j : Nat) t v, Try.f6.params[j]? = some t → args[j]? = some v → Value.okWide Try.prog W .any base t v := hval0
  have hW' := hW
  obtain ⟨p, q, hA0, hV, rfl, hfz, hnd⟩ := hW
  have hA : DataW.TrodAll enc Try.prog W 0 (fun _ => true) true Try.f6.params.toList args.toList ds p := hA0
  rw [Try.params6] at hA hval
  obtain ⟨v0, vs0, d0, ds0, p0, q0, hargs, rfl, rfl, h0, r0⟩ := trodAll_cons hA
  obtain ⟨v1, vs1, d1, ds1, p1, q1, rfl, rfl, rfl, h1, r1⟩ := trodAll_cons r0
  obtain ⟨rfl, rfl, rfl⟩ := trodAll_nil r1
  obtain rfl : args = #[v0, v1] := by cases args; simp_all
  obtain ⟨rfl, rfl⟩ := trodVars_none hV
  have k0 := h0
  have lt0 : ∀ x ∈ p0, x.block < W.heap.size := by obtain ⟨m, hm⟩ := k0; exact DataW.trod_lt m _ _ _ hm
  obtain ⟨rA0, rn0, rc0, rB0, rm0, rd0, rbs0, rts0, rfl, ra0, rb0, rx0, ry0⟩ := row_in (hval 0 25 v0 rfl rfl) h0
  obtain ⟨a1, rfl, rfl, rfl, w1⟩ := open_int Try.underlying3 (hval 1 3 v1 rfl rfl) h1
  clear hA0 hval0
  refine (edges_walk rA0 rn0 rc0 rB0 rm0 rd0 rbs0 rts0 a1 W ra0 rb0 rx0 ry0 (bounds_i64 w1).1).mono fun e W' ⟨he, bel⟩ => ?_
  subst he
  exact ⟨_, rfl, _, _, _, [], _, [], hW', trodAll_mk1 (shut_bool Try.underlying4 _), (trodAll_cons_mk (Below.trod laidOut (by kernel_rfl) (of_decide_eq_true (by kernel_rfl)) k0 bel lt0) (trodAll_cons_mk (shut_int Try.underlying3 w1) trodAll_mk0)), rfl, bel.frame _, fun h => by cases h⟩

theorem rankEdges_holds : Rows.RankEdgesSaid :=
  OpenClaim.holds_of_wide 6 Try.f6 rfl rfl rfl rfl rfl rfl rfl ⟨rfl, rfl, rfl, rfl, rfl⟩ rfl rfl rfl rfl rfl (by kernel_rfl) Try.func6 (by kernel_rfl)
    (of_decide_eq_true (by kernel_rfl)) (by unfold Func.isWrapper; first | (rw [if_pos (by decide +kernel)]; kernel_rfl) | (rw [if_neg (by decide +kernel)]; exact ⟨rfl, rfl⟩))
    (fun os started H enc _ => rankEdges_lifted os started H enc)

#print axioms rankEdges_holds
end Go.Proofs.Ytfhlcclbjagdmaa

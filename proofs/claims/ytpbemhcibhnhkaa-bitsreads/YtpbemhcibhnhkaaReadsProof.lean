/- What is proved: for every number, every string and every bool, the law BitsReads returns true and leaves them as they were: any bytes are read as the bits that they are, or refused, as the document says. Conditions: none. -/
import Derived.Test.YtpbemhcibhnhkaaReads
namespace Go.Proofs.Ytpbemhcibhnhkaa
open Go.ChangeShapes Go.WideShapes Go.ChangeAt Go.RowKit
open Go.ChangeMaps (open_string shut_string)

theorem bitsReads_walk (n : Int) (s : ByteArray) (near : Bool) (w : World) (hr : -9223372036854775808 ≤ n ∧ n ≤ 9223372036854775807) (hsl : s.size ≤ 9223372036854775807) :
    Calls Try.prog 4 #[.int .i64 n, .string s, .bool near] w fun e w' => e = .returned (.bool true) ∧ Below w.heap.size w w' := by
  have htm : ∀ k : Nat, k ≤ 60 → -480 ≤ n.tmod (8 * (k : Int) + 1) ∧ n.tmod (8 * (k : Int) + 1) ≤ 480 := by
    intro k hk
    have h1 := Int.tmod_lt_of_pos n (b := 8 * (k : Int) + 1) (by omega)
    have h2 := Int.lt_tmod_of_pos n (b := 8 * (k : Int) + 1) (by omega)
    omega
  by_cases hcut : 60 < s.size
  · have hts : (s.extract 0 60).size ≤ 60 := by simp; omega
    generalize ht : s.extract 0 60 = t at *
    cases near with
    | false =>
      obtain ⟨l, E, h⟩ := read_both n t hr.2 hts
      exact reads_cf s t n n w hcut ht hts hsl rfl l E h
    | true =>
      have hb := htm t.size hts
      by_cases h0 : 0 ≤ n.tmod (8 * (t.size : Int) + 1)
      · obtain ⟨l, E, h⟩ := read_both (n.tmod (8 * (t.size : Int) + 1)) t (by omega) hts
        exact reads_cp s t n (n.tmod (8 * (t.size : Int) + 1)) w hcut ht hts hsl rfl h0 l E h
      · obtain ⟨l, E, h⟩ := read_both (-(n.tmod (8 * (t.size : Int) + 1))) t (by omega) hts
        exact reads_cn s t n (-(n.tmod (8 * (t.size : Int) + 1))) w hcut ht hts hsl (Int.neg_neg _).symm (by omega) (by omega) l E h
  · have hts : s.size ≤ 60 := by omega
    cases near with
    | false =>
      obtain ⟨l, E, h⟩ := read_both n s hr.2 hts
      exact reads_sf s n n w hts rfl l E h
    | true =>
      have hb := htm s.size hts
      by_cases h0 : 0 ≤ n.tmod (8 * (s.size : Int) + 1)
      · obtain ⟨l, E, h⟩ := read_both (n.tmod (8 * (s.size : Int) + 1)) s (by omega) hts
        exact reads_sp s n (n.tmod (8 * (s.size : Int) + 1)) w hts rfl h0 l E h
      · obtain ⟨l, E, h⟩ := read_both (-(n.tmod (8 * (s.size : Int) + 1))) s (by omega) hts
        exact reads_sn s n (-(n.tmod (8 * (s.size : Int) + 1))) w hts (Int.neg_neg _).symm (by omega) (by omega) l E h

set_option maxRecDepth 100000 in
theorem bitsReads_lifted (os : Os) (started : os.Started) (H : Type) (enc : TypeId × Value → H) :
    ReturnsInHanded {} Try.checked os 4 .any (Rows.bitsReadsSpec.pre6 enc Try.prog Try.f4 Rows.bitsReadsRow.domain false) (Rows.bitsReadsSpec.post enc Try.prog Try.f4 false true false false) := by
  refine returnsInHanded_of_change (C := Try.checked) own started (by kernel_rfl) Try.func4
    (ChangeSpec.witness6 (enc := enc) (C := Try.checked) false ⟨#[], #[.int .i64 0, .string ⟨#[]⟩, .bool false], []⟩ 8 (by kernel_rfl) (by kernel_rfl) (by kernel_rfl) (by kernel_rfl)) ?_
  intro W base args ds gs before hval0 hW hcnd _
  have hval : ∀ (j : Nat) t v, Try.f4.params[j]? = some t → args[j]? = some v → Value.okWide Try.prog W .any base t v := hval0
  have hW' := hW
  obtain ⟨p, q, hA0, hV, rfl, hfz, hnd⟩ := hW
  have hA : DataW.TrodAll enc Try.prog W 0 (fun _ => true) true Try.f4.params.toList args.toList ds p := hA0
  rw [Try.params4] at hA hval
  obtain ⟨v0, vs0, d0, ds0, p0, q0, hargs, rfl, rfl, h0, r0⟩ := trodAll_cons hA
  obtain ⟨v1, vs1, d1, ds1, p1, q1, rfl, rfl, rfl, h1, r1⟩ := trodAll_cons r0
  obtain ⟨v2, vs2, d2, ds2, p2, q2, rfl, rfl, rfl, h2, r2⟩ := trodAll_cons r1
  obtain ⟨rfl, rfl, rfl⟩ := trodAll_nil r2
  obtain rfl : args = #[v0, v1, v2] := by cases args; simp_all
  obtain ⟨rfl, rfl⟩ := trodVars_none hV
  obtain ⟨a0, rfl, rfl, rfl, w0⟩ := open_int Try.underlying3 (hval 0 3 v0 rfl rfl) h0
  obtain ⟨a1, rfl, rfl, rfl, w1⟩ := open_string Try.underlying9 (hval 1 9 v1 rfl rfl) h1
  obtain ⟨a2, rfl, rfl, rfl⟩ := open_bool Try.underlying4 (hval 2 4 v2 rfl rfl) h2
  clear hA0 hval0
  refine (bitsReads_walk a0 a1 a2 W (bounds_i64 w0) (by have hw := w1; unfold maxLen at hw; omega)).mono fun e W' ⟨he, bel⟩ => ?_
  subst he
  exact ⟨_, rfl, _, _, _, [], _, [], hW', trodAll_mk1 (shut_bool Try.underlying4 _), (trodAll_cons_mk (shut_int Try.underlying3 w0) (trodAll_cons_mk (shut_string Try.underlying9 w1) (trodAll_cons_mk (shut_bool Try.underlying4 a2) trodAll_mk0))), rfl, bel.frame _, fun h => by cases h⟩

theorem bitsReads_holds : Rows.BitsReadsSaid :=
  OpenClaim.holds_of_wide 4 Try.f4 rfl rfl rfl rfl rfl rfl rfl ⟨rfl, rfl, rfl, rfl, rfl⟩ rfl rfl rfl rfl rfl (by kernel_rfl) Try.func4 (by kernel_rfl)
    (of_decide_eq_true (by kernel_rfl)) (by unfold Func.isWrapper; first | (rw [if_pos (by decide +kernel)]; kernel_rfl) | (rw [if_neg (by decide +kernel)]; exact ⟨rfl, rfl⟩))
    (fun os started H enc _ => bitsReads_lifted os started H enc)

#print axioms bitsReads_holds
end Go.Proofs.Ytpbemhcibhnhkaa

/- The contract of Select. -/
import Derived.Test.YtpnjccomngdblaaGreatWR
set_option maxRecDepth 100000
namespace Go.Proofs.YtpnjccomngdblaaGreat
open Go.RowKit
open M
attribute [local go_sem ↓] Go.wp_at_zero Go.wp_at_succ

theorem FCx.lt {w : World} {b o : Nat} {F : FP} (h : FCx w b o F) : b < w.heap.size := World.block_lt_of_cell? w _ h.c0
theorem FCx.kept {w w' : World} {b o : Nat} {F : FP} (h : FCx w b o F) (hb : Below w.heap.size w w') : FCx w' b o F := by
  have cl : ∀ o, w'.cell? ⟨b, o, none⟩ = w.cell? ⟨b, o, none⟩ := fun o => hb.cell (p := ⟨b, o, none⟩) h.lt
  exact ⟨by rw [cl]; exact h.c0, by rw [cl]; exact h.c1, by rw [cl]; exact h.c2, by rw [cl]; exact h.c3, by rw [cl]; exact h.c4, by rw [cl]; exact h.c5, by rw [cl]; exact h.c6, by rw [cl]; exact h.c7, by rw [cl]; exact h.c8, by rw [cl]; exact h.c9, by rw [cl]; exact h.c10⟩
/-- A fork's cells in a list, and those of a boxed row of symbols. -/
theorem fcs_of {b o bx : Nat} {F : FP} {n size : Int} {s : Value} {w u : World} (h : FCx w b o F) (h2 : WBx w bx n size s) (hb : Below w.heap.size w u) : (u.cell? ⟨b, o, none⟩ = some (.int .i64 (F.R.n : Int)) ∧ u.cell? ⟨b, o + 1, none⟩ = some (.slice F.R.a F.R.m F.R.c) ∧ u.cell? ⟨b, o + 2, none⟩ = some (.int .i64 (F.R.cn : Int)) ∧ u.cell? ⟨b, o + 3, none⟩ = some (.int .i64 (F.R.cW : Int)) ∧ u.cell? ⟨b, o + 4, none⟩ = some (.int .i64 (F.R.cL : Int)) ∧ u.cell? ⟨b, o + 5, none⟩ = some (.slice F.R.a2 F.R.m2 F.R.c2) ∧ u.cell? ⟨b, o + 6, none⟩ = some (.int .i64 (F.b : Int)) ∧ u.cell? ⟨b, o + 7, none⟩ = some (.int .i64 (F.m : Int)) ∧ u.cell? ⟨b, o + 8, none⟩ = some (.int .i64 (F.e : Int)) ∧ u.cell? ⟨b, o + 9, none⟩ = some (.int .i64 (F.z : Int)) ∧ u.cell? ⟨b, o + 10, none⟩ = some (.int .i64 (F.o : Int))) ∧ u.cell? ⟨bx, 0, none⟩ = some (.int .i64 n) ∧ u.cell? ⟨bx, 1, none⟩ = some (.int .i64 size) ∧ u.cell? ⟨bx, 2, none⟩ = some s := by
  have h2 := h2.kept hb
  have h := h.kept hb
  exact ⟨⟨h.c0, h.c1, h.c2, h.c3, h.c4, h.c5, h.c6, h.c7, h.c8, h.c9, h.c10⟩, h2.c0, h2.c1, h2.c2⟩

theorem pre_rk (l : List Int) (y i : Nat) : preN l 0 y i = rkN true (eqs l (y : Int)) i := by
  unfold preN rkN eqs withI
  rw [← List.map_take]
  generalize l.take i = m
  induction m with
  | nil => rfl
  | cons x r ih =>
    rw [List.map_cons, List.count_cons, List.filter_cons, ← ih]
    by_cases hx : x = (y : Int)
    · simp [hx]
    · simp [hx]
theorem pre_place (l : List Int) (y kk : Nat) : ∀ i, i ≤ l.length → kk < preN l 0 y i → ∃ j, j < i ∧ l.getD j 0 = (y : Int) ∧ preN l 0 y j = kk := by
  intro i
  induction i with
  | zero => intro _ h; rw [pre_zero] at h; omega
  | succ i ih =>
    intro hi h
    by_cases hk : kk < preN l 0 y i
    · obtain ⟨j, h1, h2⟩ := ih (by omega) hk
      exact ⟨j, by omega, h2⟩
    · have hs := rkN_succ true (eqs l (y : Int)) i (by rw [eqs_len]; omega)
      rw [← pre_rk, ← pre_rk, eqs_at l _ i (by omega)] at hs
      by_cases hx : l.getD i 0 = (y : Int)
      · rw [if_pos (by simpa using hx)] at hs
        exact ⟨i, by omega, hx, by omega⟩
      · rw [if_neg (by simpa using hx)] at hs
        omega

/-- The step up. -/
theorem node_climb {w : World} {F : FP} (l : List Int) (W k y j : Nat) (hk : k < W) (h : Sy l W) (hy : y < 2 ^ W) (hF : FK w F (rowK l W k)) (hb : F.b = begN l (W - k) (y / 2 ^ (W - k))) (he : F.e = posN l (W - k) (y / 2 ^ (W - k)) l.length) (hj : j < l.length) (hx : l.getD j 0 = (y : Int)) (d : Bool) (hd : decide ((y : Int) / 2 ^ (W - 1 - k) % 2 = 1) = d) :
    selN d (rowK l W k) (((if d = true then F.o else F.z : Nat) : Int) + (posN l (W - 1 - k) (y / 2 ^ (W - 1 - k)) j : Nat) - (nb F d : Nat)) = (posN l (W - k) (y / 2 ^ (W - k)) j : Nat) := by
  have hpl := first_lt y W k (by omega) hy
  obtain ⟨hQ1, hQ2, hQ3, hQ4⟩ := node_fork l W k (y / 2 ^ (W - k)) hk h hpl hF hb he d
  have hp' := bits_step y W k hk
  rw [hd] at hp'
  obtain ⟨hn1, hn2⟩ := node_at l W k (y / 2 ^ (W - k)) j h hpl hj (by rw [hx]; simp)
  have hall := pos_all l W k (y / 2 ^ (W - k)) (by omega) h hpl
  refine selN_at d _ _ _ (by rw [rowK_len l W k (by omega) h]; omega) (by rw [hn1, hx]; exact hd) ?_
  rw [node_rk l W k _ j hk h hpl d, hQ3, hQ1, hp', ← hb]
  unfold posN
  omega

theorem sel_no (l : List Int) (c k : Int) (h : ∀ x ∈ l, x ≠ c) : selN true (eqs l c) k = -1 := by
  refine selN_none _ _ _ ?_
  have h0 : rkN true (eqs l c) (eqs l c).length = 0 := by
    unfold rkN eqs
    rw [List.take_length, List.count_eq_zero]
    simp only [List.mem_map, decide_eq_true_eq, not_exists, not_and]
    exact h
  rw [h0]
  by_cases hk : k < 0
  · exact .inl hk
  · exact .inr (by omega)

end Go.Proofs.YtpnjccomngdblaaGreat

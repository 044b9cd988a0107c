/- Plain facts: two lists that rise, gone over side by side. -/
import Derived.Test.YtjijkiafjlfeiaaOT
set_option maxRecDepth 100000
namespace Go.Proofs.Ytjijkiafjlfeiaa
open Go.RowKit
open M

/-- Those from t on, n numbers far. -/
def gL (P : Nat → Bool) (t n : Nat) : List Int := ((List.range' t n).filter P).map fun i : Nat => (i : Int)
theorem gL_zero (P : Nat → Bool) (t : Nat) : gL P t 0 = [] := rfl
theorem gL_succ (P : Nat → Bool) (t n : Nat) : gL P t (n + 1) = (if P t = true then [(t : Int)] else []) ++ gL P (t + 1) n := by
  unfold gL
  rw [List.range'_succ, List.filter_cons]
  split <;> simp
theorem gL_all (P : Nat → Bool) (n : Nat) : rsL P n = gL P 0 n := by
  unfold rsL gL
  rw [List.range_eq_range']
theorem gL_next {P : Nat → Bool} : ∀ {n t : Nat} {x : Int} {rest : List Int}, gL P t n = x :: rest → ∃ xn : Nat, t ≤ xn ∧ xn < t + n ∧ x = (xn : Int) ∧ P xn = true ∧ (∀ z, t ≤ z → z < xn → P z = false) ∧ rest = gL P (xn + 1) (t + n - (xn + 1)) := by
  intro n
  induction n with
  | zero => intro t x rest h; rw [gL_zero] at h; cases h
  | succ n ih =>
    intro t x rest h
    rw [gL_succ] at h
    by_cases hp : P t = true
    · rw [if_pos hp, List.singleton_append] at h
      obtain ⟨h1, h2⟩ := List.cons.inj h
      refine ⟨t, Nat.le_refl _, by omega, h1.symm, hp, fun z h3 h4 => by omega, ?_⟩
      rw [← h2]; congr 1; omega
    · rw [if_neg hp, List.nil_append] at h
      obtain ⟨xn, h1, h2, h3, h4, h5, h6⟩ := ih h
      refine ⟨xn, by omega, by omega, h3, h4, fun z h7 h8 => ?_, ?_⟩
      · by_cases e : z = t
        · rw [e]; simpa using hp
        · exact h5 z (by omega) h8
      · rw [h6]; congr 1; omega
theorem gL_none {P : Nat → Bool} : ∀ {n t : Nat}, gL P t n = [] → ∀ z, t ≤ z → z < t + n → P z = false := by
  intro n
  induction n with
  | zero => intro t _ z h1 h2; omega
  | succ n ih =>
    intro t h z h1 h2
    rw [gL_succ] at h
    obtain ⟨h3, h4⟩ := List.append_eq_nil_iff.1 h
    by_cases e : z = t
    · subst e
      cases hp : P z
      · rfl
      · rw [hp] at h3; simp at h3
    · exact ih h4 z (by omega) (by omega)
theorem gL_skip {P : Nat → Bool} (s : Nat) : ∀ {n t : Nat}, t ≤ s → s ≤ t + n → (∀ z, t ≤ z → z < s → P z = false) → gL P t n = gL P s (t + n - s) := by
  intro n
  induction n with
  | zero => intro t h1 h2 _; rw [show t + 0 - s = 0 by omega]; rfl
  | succ n ih =>
    intro t h1 h2 h3
    by_cases e : t = s
    · subst e; congr 1; omega
    · rw [gL_succ, if_neg (by rw [h3 t (Nat.le_refl _) (by omega)]; decide), List.nil_append, ih (by omega) (by omega) (fun z h4 h5 => h3 z (by omega) h5)]
      congr 1; omega
theorem rsL_gap {R : Nat → Bool} {t : Nat} : ∀ s, t ≤ s → (∀ z, t ≤ z → z < s → R z = false) → rsL R s = rsL R t := by
  intro s
  induction s with
  | zero => intro h _; rw [show t = 0 by omega]
  | succ s ih =>
    intro h1 h2
    by_cases e : t = s + 1
    · rw [e]
    · rw [rsL_succ, if_neg (by rw [h2 s (by omega) (by omega)]; decide), List.append_nil, ih (by omega) (fun z h3 h4 => h2 z h3 (by omega))]

structure MG (P Q : Nat → Bool) (t : Nat) (da db : List Int) : Prop where
  le : t ≤ 64
  a : da = gL P t (64 - t)
  b : db = gL Q t (64 - t)
def keepR (K : Bool → Bool → Bool) (P Q : Nat → Bool) (z : Nat) : Bool := (P z || Q z) && K (P z) (Q z)
variable {P Q : Nat → Bool} {K : Bool → Bool → Bool} {t : Nat} {x y : Int} {ra rb da db : List Int}

theorem MG.stepA (h : MG P Q t (x :: ra) db) (hx : ∀ y rb, db = y :: rb → x < y) : ∃ t', MG P Q t' ra db ∧ rsL (keepR K P Q) t' = rsL (keepR K P Q) t ++ if K true false = true then [x] else [] := by
  obtain ⟨xn, h1, h2, h3, h4, h5, h6⟩ := gL_next h.a.symm
  have hle := h.le
  have hq : ∀ z, t ≤ z → z < xn + 1 → Q z = false := fun z z1 z2 => by
    cases hdb : db with
    | nil => exact gL_none (h.b.symm.trans hdb) z z1 (by omega)
    | cons y rb =>
      obtain ⟨yn, g1, g2, g3, g4, g5, g6⟩ := gL_next (h.b.symm.trans hdb)
      have := hx y rb hdb
      exact g5 z z1 (by omega)
  have hr : ∀ z, t ≤ z → z < xn → keepR K P Q z = false := fun z z1 z2 => by unfold keepR; rw [h5 z z1 z2, hq z z1 (by omega)]; rfl
  refine ⟨xn + 1, ⟨by omega, ?_, ?_⟩, ?_⟩
  · rw [h6]; congr 1; omega
  · rw [h.b, gL_skip (xn + 1) (by omega) (by omega) hq]; congr 1; omega
  · rw [rsL_succ, rsL_gap xn h1 hr]
    congr 1
    unfold keepR
    rw [h4, hq xn h1 (by omega), h3]
    simp
theorem MG.stepB (h : MG P Q t da (y :: rb)) (hy : ∀ x ra, da = x :: ra → y < x) : ∃ t', MG P Q t' da rb ∧ rsL (keepR K P Q) t' = rsL (keepR K P Q) t ++ if K false true = true then [y] else [] := by
  obtain ⟨yn, h1, h2, h3, h4, h5, h6⟩ := gL_next h.b.symm
  have hle := h.le
  have hq : ∀ z, t ≤ z → z < yn + 1 → P z = false := fun z z1 z2 => by
    cases hda : da with
    | nil => exact gL_none (h.a.symm.trans hda) z z1 (by omega)
    | cons x ra =>
      obtain ⟨xn, g1, g2, g3, g4, g5, g6⟩ := gL_next (h.a.symm.trans hda)
      have := hy x ra hda
      exact g5 z z1 (by omega)
  have hr : ∀ z, t ≤ z → z < yn → keepR K P Q z = false := fun z z1 z2 => by unfold keepR; rw [h5 z z1 z2, hq z z1 (by omega)]; rfl
  refine ⟨yn + 1, ⟨by omega, ?_, ?_⟩, ?_⟩
  · rw [h.a, gL_skip (yn + 1) (by omega) (by omega) hq]; congr 1; omega
  · rw [h6]; congr 1; omega
  · rw [rsL_succ, rsL_gap yn h1 hr]
    congr 1
    unfold keepR
    rw [h4, hq yn h1 (by omega), h3]
    simp
theorem MG.stepAB (h : MG P Q t (x :: ra) (x :: rb)) : ∃ t', MG P Q t' ra rb ∧ rsL (keepR K P Q) t' = rsL (keepR K P Q) t ++ if K true true = true then [x] else [] := by
  obtain ⟨xn, h1, h2, h3, h4, h5, h6⟩ := gL_next h.a.symm
  obtain ⟨yn, g1, g2, g3, g4, g5, g6⟩ := gL_next h.b.symm
  have hle := h.le
  obtain rfl : xn = yn := by omega
  have hr : ∀ z, t ≤ z → z < xn → keepR K P Q z = false := fun z z1 z2 => by unfold keepR; rw [h5 z z1 z2, g5 z z1 z2]; rfl
  refine ⟨xn + 1, ⟨by omega, ?_, ?_⟩, ?_⟩
  · rw [h6]; congr 1; omega
  · rw [g6]; congr 1; omega
  · rw [rsL_succ, rsL_gap xn h1 hr]
    congr 1
    unfold keepR
    rw [h4, g4, h3]
    simp
theorem MG.stop (h : MG P Q t [] []) : rsL (keepR K P Q) 64 = rsL (keepR K P Q) t := by
  have hle := h.le
  refine rsL_gap 64 h.le fun z z1 z2 => ?_
  unfold keepR
  rw [gL_none h.a.symm z z1 (by omega), gL_none h.b.symm z z1 (by omega)]; rfl
theorem MG.start (P Q : Nat → Bool) : MG P Q 0 (rsL P 64) (rsL Q 64) := ⟨by omega, gL_all P 64, gL_all Q 64⟩

theorem drop_at {l : List Int} {i : Nat} (h : i < l.length) : l.drop i = l.getD i 0 :: l.drop (i + 1) := by
  rw [List.drop_eq_getElem_cons h]
  simp [List.getD_eq_getElem?_getD, h]

end Go.Proofs.Ytjijkiafjlfeiaa

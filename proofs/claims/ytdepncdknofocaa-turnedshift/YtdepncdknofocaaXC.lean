/- The contracts of the document's Alike, and of its Find; how the places of a row are put in order by its suffixes. -/
import Derived.Test.YtdepncdknofocaaXB
set_option maxRecDepth 100000
namespace Go.Proofs.Ytdepncdknofocaa
open Go.RowKit
open M
attribute [local go_sem ↓] Go.wp_at_zero Go.wp_at_succ

theorem alk_cc (x y : Int) (s t : List Int) : alk (x :: s) (y :: t) = if x = y then alk s t + 1 else 0 := by rw [alk]
theorem alk_le : ∀ a b : List Int, alk a b ≤ a.length ∧ alk a b ≤ b.length := by
  intro a
  induction a with
  | nil => intro b; rw [alk_nil_l]; simp
  | cons x s ih =>
    intro b
    cases b with
    | nil => rw [alk_nil_r]; simp
    | cons y t =>
      rw [alk_cc]
      have := ih t
      simp only [List.length_cons]
      split <;> omega

/-! ## The order of suffixes as an order of numbers -/
/-- How many suffixes are less than the one at x. -/
def sfN (l : List Int) (p : Nat) : Nat := ((List.range l.length).filter fun q => ltB (l.drop q) (l.drop p)).length
def sfK (l : List Int) (x : Int) : Int := ((sfN l x.toNat : Nat) : Int)
def sufA (l : List Int) : List Int := ordP (sfK l) l.length

theorem filter_lt {β : Type} (p q : β → Bool) : ∀ {l : List β}, (∀ x ∈ l, p x = true → q x = true) → (∃ x ∈ l, q x = true ∧ p x = false) → (l.filter p).length < (l.filter q).length := by
  intro l
  induction l with
  | nil => rintro - ⟨x, hx, -⟩; simp at hx
  | cons a t ih =>
    intro h ⟨x, hx, hq, hp⟩
    have hmono : (t.filter p).length ≤ (t.filter q).length := by
      rw [← List.countP_eq_length_filter, ← List.countP_eq_length_filter]
      exact List.countP_mono_left (fun y hy => h y (by simp [hy]))
    rcases List.mem_cons.1 hx with e | e
    · subst e
      rw [List.filter_cons, List.filter_cons, if_neg (by rw [hp]; decide), if_pos hq, List.length_cons]
      omega
    · have := ih (fun y hy => h y (by simp [hy])) ⟨x, e, hq, hp⟩
      have ha := h a (by simp)
      rw [List.filter_cons, List.filter_cons]
      by_cases hpa : p a = true
      · rw [if_pos hpa, if_pos (ha hpa), List.length_cons, List.length_cons]; omega
      · rw [if_neg hpa]
        split
        · rw [List.length_cons]; omega
        · exact this

theorem ltB_sl {l : List Int} (h : I64s l) (p q : Nat) : ltB (l.drop p) (l.drop q) = true ↔ sl b0 l p q := by
  rw [ltB_iff (i64_abv (i64_drop h p)) (i64_abv (i64_drop h q)), sx_drop, sx_drop]
  exact Iff.rfl
theorem sfN_lt1 {l : List Int} (h : I64s l) {p q : Nat} (hp : p < l.length) (hs : sl b0 l p q) : sfN l p < sfN l q := by
  unfold sfN
  apply filter_lt
  · intro r _ hr
    rw [ltB_sl h] at hr ⊢
    exact hr.trans hs
  · refine ⟨p, List.mem_range.2 hp, (ltB_sl h p q).2 hs, ?_⟩
    rw [← Bool.not_eq_true, ltB_sl h]
    exact lx.irr
theorem sfN_lt {l : List Int} (h : I64s l) {p q : Nat} (hp : p < l.length) (hq : q < l.length) : sfN l p < sfN l q ↔ sl b0 l p q := by
  refine ⟨fun hlt => ?_, sfN_lt1 h hp⟩
  by_cases e : p = q
  · subst e; omega
  · rcases sl_total (i64_abv h) (Nat.le_of_lt hp) (Nat.le_of_lt hq) e with h1 | h1
    · exact h1
    · have := sfN_lt1 h hq h1; omega
theorem sfK_lt {l : List Int} (h : I64s l) {p q : Nat} (hp : p < l.length) (hq : q < l.length) : (sfK l p < sfK l q) ↔ ltB (l.drop p) (l.drop q) = true := by
  rw [ltB_sl h, ← sfN_lt h hp hq]
  unfold sfK
  rw [Int.toNat_natCast, Int.toNat_natCast]
  omega
theorem sfK_inj {l : List Int} (h : I64s l) {p q : Nat} (hp : p < l.length) (hq : q < l.length) (e : sfK l p = sfK l q) : p = q := by
  apply Classical.byContradiction
  intro hne
  unfold sfK at e
  rw [Int.toNat_natCast, Int.toNat_natCast] at e
  rcases sl_total (i64_abv h) (Nat.le_of_lt hp) (Nat.le_of_lt hq) hne with h1 | h1
  · have := sfN_lt1 h hp h1; omega
  · have := sfN_lt1 h hq h1; omega
theorem sufA_ok {l : List Int} (h : I64s l) : SA b0 l (sufA l) := by
  unfold sufA
  refine ⟨ordP_length _ _, fun x hx => ordP_mem.1 hx, ?_⟩
  rw [List.pairwise_iff_getElem]
  intro i j hi hj hij
  rw [ordP_length] at hi hj
  have hr := ordP_rise (sfK l) l.length hij hj
  obtain ⟨p, hp, hpn⟩ := ordP_at (sfK l) l.length hi
  obtain ⟨q, hq, hqn⟩ := ordP_at (sfK l) l.length hj
  rw [hp, hq] at hr
  have e1 : (ordP (sfK l) l.length)[i]'(by rw [ordP_length]; exact hi) = (p : Int) := by
    rw [← hp, List.getD_eq_getElem?_getD, List.getElem?_eq_getElem (by rw [ordP_length]; exact hi), Option.getD_some]
  have e2 : (ordP (sfK l) l.length)[j]'(by rw [ordP_length]; exact hj) = (q : Int) := by
    rw [← hq, List.getD_eq_getElem?_getD, List.getElem?_eq_getElem (by rw [ordP_length]; exact hj), Option.getD_some]
  rw [e1, e2, Int.toNat_natCast, Int.toNat_natCast, ← ltB_sl h, ← sfK_lt h hpn hqn]
  rcases hr with hr | ⟨e, hr⟩
  · exact hr
  · have := sfK_inj h hpn hqn e
    omega
theorem sufA_len (l : List Int) : (sufA l).length = l.length := ordP_length _ _

end Go.Proofs.Ytdepncdknofocaa

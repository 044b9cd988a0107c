/- Plain facts: what Find tells of the order itself. No program is named here. -/
import Derived.Test.YtjepgdfcjbgahaaXU
set_option maxRecDepth 100000
namespace Go.Proofs.Ytjepgdfcjbgahaa
open Go.RowKit
open M

theorem ltB_tot : ∀ {a b : List Int}, ltB a b = false → ltB b a = false → a = b := by
  intro a
  induction a with
  | nil =>
    intro b h _
    cases b with
    | nil => rfl
    | cons y t => cases h
  | cons x s ih =>
    intro b h1 h2
    cases b with
    | nil => cases h2
    | cons y t =>
      rw [ltB_cc] at h1 h2
      by_cases e1 : x < y
      · rw [if_pos e1] at h1; cases h1
      · by_cases e2 : y < x
        · rw [if_pos e2] at h2; cases h2
        · rw [if_neg e1, if_neg e2] at h1
          rw [if_neg e2, if_neg e1] at h2
          have : x = y := by omega
          rw [this, ih h1 h2]
theorem ltB_take : ∀ (p s : List Int), ltB (s.take p.length) p = ltB s p := by
  intro p
  induction p with
  | nil => intro s; rw [ltB_nil_r, ltB_nil_r]
  | cons y t ih =>
    intro s
    cases s with
    | nil => rfl
    | cons x s =>
      rw [List.length_cons, List.take_succ_cons, ltB_cc, ltB_cc, ih]
theorem alk_take : ∀ (p s : List Int), alk s p = p.length ↔ s.take p.length = p := by
  intro p
  induction p with
  | nil => intro s; rw [alk_nil_r]; simp
  | cons y t ih =>
    intro s
    cases s with
    | nil => rw [alk_nil_l]; simp
    | cons x s =>
      rw [List.length_cons, List.take_succ_cons, alk_cc]
      by_cases e : x = y
      · subst e
        rw [if_pos rfl]
        have h := ih s
        simp only [List.cons.injEq, true_and]
        exact ⟨fun e => h.1 (by omega), fun e => by have := h.2 e; omega⟩
      · rw [if_neg e]
        simp [e]
theorem take_mono : ∀ (k : Nat) {a b : List Int}, ltB a b = true → ltB (b.take k) (a.take k) = false := by
  intro k
  induction k with
  | zero => intro a b _; simp [ltB]
  | succ k ih =>
    intro a b h
    cases a with
    | nil => rw [List.take_nil, ltB_nil_r]
    | cons x s =>
      cases b with
      | nil => cases h
      | cons y t =>
        rw [List.take_succ_cons, List.take_succ_cons, ltB_cc]
        rw [ltB_cc] at h
        by_cases e1 : x < y
        · rw [if_neg (by omega), if_pos e1]
        · rw [if_neg e1] at h
          by_cases e2 : y < x
          · rw [if_pos e2] at h; cases h
          · rw [if_neg e2] at h
            rw [if_neg e2, if_neg e1]
            exact ih h
theorem ltB_tr {a b c : List Int} (ha : Abv b0 a) (hb : Abv b0 b) (hc : Abv b0 c) (h1 : ltB a b = true) (h2 : ltB b c = true) : ltB a c = true :=
  (ltB_iff ha hc).2 (lx.trans ((ltB_iff ha hb).1 h1) ((ltB_iff hb hc).1 h2))

/-- Does it begin with p? -/
def Bgs (s p : List Int) : Prop := alk s p = p.length
theorem bgs_ge {s p : List Int} (h : Bgs s p) : ltB s p = false := by
  have := (alk_take p s).1 h
  rw [← ltB_take, this, ltB_irr]
theorem cmp_lt (s p : List Int) : cmpL (s.take p.length) p < 0 ↔ ltB s p = true := by
  unfold cmpL
  rw [ltB_take]
  by_cases h : ltB s p = true
  · simp [h]
  · rw [if_neg h]; split <;> simp [h]
theorem cmp_le (s p : List Int) : cmpL (s.take p.length) p ≤ 0 ↔ ltB s p = true ∨ Bgs s p := by
  unfold cmpL Bgs
  rw [ltB_take, alk_take]
  by_cases h : ltB s p = true
  · simp [h]
  · rw [if_neg h]
    by_cases h2 : ltB p (s.take p.length) = true
    · rw [if_pos h2]
      refine ⟨fun h => by omega, fun h' => ?_⟩
      rcases h' with h' | h'
      · exact absurd h' h
      · rw [h', ltB_irr] at h2; cases h2
    · rw [if_neg h2]
      refine ⟨fun _ => .inr (ltB_tot (by rw [ltB_take]; simpa using h) (by simpa using h2)), fun _ => by omega⟩

/-- What Find tells of the row's own order. -/
structure FndO (l p : List Int) (f t : Nat) : Prop where
  ft : f ≤ t
  tn : t ≤ l.length
  lt : ∀ i q : Nat, i < l.length → (sufA l).getD i 0 = (q : Int) → (i < f ↔ ltB (l.drop q) p = true)
  le : ∀ i q : Nat, i < l.length → (sufA l).getD i 0 = (q : Int) → (i < t ↔ ltB (l.drop q) p = true ∨ Bgs (l.drop q) p)
theorem agI_at {l p : List Int} {i q : Nat} (hq : (sufA l).getD i 0 = (q : Int)) (hql : q < l.length) : agI l (sufA l) p i = cmpL ((l.drop q).take p.length) p := by
  unfold agI beg
  rw [hq, if_pos (by omega), Int.toNat_natCast]
theorem fnd_own {l p : List Int} (h64 : I64s l) (hp : Abv b0 p) {f t : Nat} (h1 : f ≤ t) (h2 : t ≤ l.length) (h3 : 0 < f → agI l (sufA l) p (f - 1) < 0) (h4 : f < l.length → ¬ agI l (sufA l) p f < 0) (h5 : f < t → agI l (sufA l) p (t - 1) ≤ 0) (h6 : t < l.length → ¬ agI l (sufA l) p t ≤ 0) : FndO l p f t := by
  have hS := sufA_ok h64
  have ha : ∀ q, Abv b0 (l.drop q) := fun q => i64_abv (i64_drop h64 q)
  have hsl : ∀ {i j q r : Nat}, i < j → j < l.length → (sufA l).getD i 0 = (q : Int) → (sufA l).getD j 0 = (r : Int) → ltB (l.drop q) (l.drop r) = true := fun hij hj hq hr => (ltB_sl h64 _ _).2 ((hS.iff (by omega) hj hq hr).1 hij)
  have mlt : ∀ {i j q r : Nat}, i < j → j < l.length → (sufA l).getD i 0 = (q : Int) → (sufA l).getD j 0 = (r : Int) → ltB (l.drop r) p = true → ltB (l.drop q) p = true := fun hij hj hq hr h => ltB_tr (ha _) (ha _) hp (hsl hij hj hq hr) h
  have mle : ∀ {i j q r : Nat}, i < j → j < l.length → (sufA l).getD i 0 = (q : Int) → (sufA l).getD j 0 = (r : Int) → (ltB (l.drop r) p = true ∨ Bgs (l.drop r) p) → (ltB (l.drop q) p = true ∨ Bgs (l.drop q) p) := by
    intro i j q r hij hj hq hr h
    rcases h with h | h
    · exact .inl (mlt hij hj hq hr h)
    · have h7 := take_mono p.length (hsl hij hj hq hr)
      rw [(alk_take p _).1 h] at h7
      by_cases h8 : ltB (l.drop q) p = true
      · exact .inl h8
      · exact .inr ((alk_take p _).2 (ltB_tot (by rw [ltB_take]; simpa using h8) h7))
  refine ⟨h1, h2, fun i q hi hq => ?_, fun i q hi hq => ?_⟩
  · constructor
    · intro hif
      obtain ⟨r, hr, hrl⟩ := hS.pl (i := f - 1) (by omega)
      have h := h3 (by omega)
      rw [agI_at hr hrl, cmp_lt] at h
      by_cases e : i = f - 1
      · subst e
        have : q = r := by omega
        rw [this]; exact h
      · exact mlt (by omega) (by omega) hq hr h
    · intro hl
      apply Nat.lt_of_not_le
      intro hle
      obtain ⟨r, hr, hrl⟩ := hS.pl (i := f) (by omega)
      have h := h4 (by omega)
      rw [agI_at hr hrl, cmp_lt] at h
      apply h
      by_cases e : f = i
      · subst e
        have : q = r := by omega
        rw [← this]; exact hl
      · exact mlt (by omega) hi hr hq hl
  · constructor
    · intro hif
      by_cases hft : f < t
      · obtain ⟨r, hr, hrl⟩ := hS.pl (i := t - 1) (by omega)
        have h := h5 hft
        rw [agI_at hr hrl, cmp_le] at h
        by_cases e : i = t - 1
        · subst e
          have : q = r := by omega
          rw [this]; exact h
        · exact mle (by omega) (by omega) hq hr h
      · obtain ⟨r, hr, hrl⟩ := hS.pl (i := f - 1) (by omega)
        have h := h3 (by omega)
        rw [agI_at hr hrl, cmp_lt] at h
        by_cases e : i = f - 1
        · subst e
          have : q = r := by omega
          rw [this]; exact .inl h
        · exact .inl (mlt (by omega) (by omega) hq hr h)
    · intro hl
      apply Nat.lt_of_not_le
      intro hle
      obtain ⟨r, hr, hrl⟩ := hS.pl (i := t) (by omega)
      have h := h6 (by omega)
      rw [agI_at hr hrl, cmp_le] at h
      apply h
      by_cases e : t = i
      · subst e
        have : q = r := by omega
        rw [← this]; exact hl
      · exact mle (by omega) hi hr hq hl
/-- Between the two numbers stand those that begin with p. -/
theorem FndO.mid {l p : List Int} {f t : Nat} (h : FndO l p f t) {i q : Nat} (hi : i < l.length) (hq : (sufA l).getD i 0 = (q : Int)) : (f ≤ i ∧ i < t) ↔ Bgs (l.drop q) p := by
  have h1 := h.lt i q hi hq
  have h2 := h.le i q hi hq
  constructor
  · rintro ⟨a, b⟩
    rcases h2.1 b with e | e
    · have := h1.2 e; omega
    · exact e
  · intro hb
    refine ⟨Nat.not_lt.1 fun hlt => ?_, h2.2 (.inr hb)⟩
    have := h1.1 hlt
    rw [bgs_ge hb] at this; cases this

theorem count_below : ∀ (n f : Nat), f ≤ n → ((List.range n).filter fun i => decide (i < f)).length = f := by
  intro n
  induction n with
  | zero => intro f h; simp; omega
  | succ n ih =>
    intro f h
    rw [List.range_succ, List.filter_append, List.length_append]
    by_cases e : f = n + 1
    · subst e
      have h1 : ((List.range n).filter fun i => decide (i < n + 1)).length = n := by
        rw [List.filter_eq_self.2 (fun a ha => by have := List.mem_range.1 ha; simp; omega), List.length_range]
      rw [h1]; simp
    · rw [ih f (by omega)]
      simp; omega
/-- What is counted over the places is what is counted over their order. -/
theorem count_ord {l : List Int} (P : Nat → Bool) (Q : Nat → Bool) (hPQ : ∀ i q : Nat, i < l.length → (sufA l).getD i 0 = (q : Int) → P q = Q i) : ((List.range l.length).filter P).length = ((List.range l.length).filter Q).length := by
  have h1 : ((List.range l.length).filter P).length = ((plcs l.length).filter fun x => P x.toNat).length := by
    unfold plcs
    rw [List.filter_map, List.length_map]
    congr 1
  have h2 : ((plcs l.length).filter fun x => P x.toNat).length = ((sufA l).filter fun x => P x.toNat).length := ((ordP_same (sfK l) l.length).perm.filter _).length_eq
  have h3 : sufA l = (List.range l.length).map fun i => (sufA l).getD i 0 := by
    apply List.ext_getElem (by simp [sufA_len])
    intro i h4 h5
    simp [List.getD_eq_getElem?_getD, h4]
  rw [h1, h2, h3, List.filter_map, List.length_map]
  congr 1
  apply List.filter_congr
  intro i hi
  obtain ⟨q, hq, -⟩ := ordP_at (sfK l) l.length (List.mem_range.1 hi)
  show P ((sufA l).getD i 0).toNat = Q i
  have hq' : (sufA l).getD i 0 = (q : Int) := hq
  rw [hq', Int.toNat_natCast]
  exact hPQ i q (List.mem_range.1 hi) hq'
theorem FndO.from {l p : List Int} {f t : Nat} (h : FndO l p f t) : fromN l p l.length = f := by
  unfold fromN
  rw [count_ord (fun q => ltB (l.drop q) p) (fun i => decide (i < f)) (fun i q hi hq => by
    have := h.lt i q hi hq
    rw [Bool.eq_iff_iff, decide_eq_true_eq]
    exact this.symm), count_below _ _ (Nat.le_trans h.ft h.tn)]
theorem FndO.many {l p : List Int} {f t : Nat} (h : FndO l p f t) : fromN l p l.length + manyN l p l.length = t := by
  have h1 := filter_two (List.range l.length) (fun i => decide (i < t)) (fun i => decide (i < f)) (fun i => decide (f ≤ i ∧ i < t)) (fun i _ => by
    have := h.ft
    by_cases e : i < f
    · simp [e]; omega
    · by_cases e2 : i < t
      · simp [e2]; omega
      · simp [e2]; omega) (fun i _ => by
    by_cases e : i < f
    · simp [e]; omega
    · simp [e])
  rw [count_below _ _ h.tn, count_below _ _ (Nat.le_trans h.ft h.tn)] at h1
  have h2 : manyN l p l.length = ((List.range l.length).filter fun i => decide (f ≤ i ∧ i < t)).length := by
    unfold manyN
    exact count_ord _ _ (fun i q hi hq => by
      have := h.mid hi hq
      unfold Bgs at this
      rw [decide_eq_decide]
      exact this.symm)
  rw [h.from, h2]
  omega

end Go.Proofs.Ytjepgdfcjbgahaa

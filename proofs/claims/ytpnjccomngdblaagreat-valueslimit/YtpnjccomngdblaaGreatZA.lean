/- Plain facts: where a row stands in a row turned, told backwards, step by step. No program is named here. -/
import Derived.Test.YtpnjccomngdblaaGreatYY
set_option maxRecDepth 100000
namespace Go.Proofs.YtpnjccomngdblaaGreat

variable {l : List Int}

/-- Is the suffix at q less than p (b: or does p begin it)? -/
def dpB (l : List Int) (b : Bool) : List Int → Nat → Bool
  | [], _ => b
  | c :: p, q => if q < l.length then (decide (l.getD q 0 < c) || (decide (l.getD q 0 = c) && dpB l b p (q + 1))) else true
/-- How many suffixes are. -/
def frN (l : List Int) (b : Bool) (p : List Int) : Nat := (List.range (l.length + 1)).countP (dpB l b p)
/-- Does p stand at q? -/
def stB (l : List Int) : List Int → Nat → Bool
  | [], q => decide (q ≤ l.length)
  | c :: p, q => decide (q < l.length) && decide (l.getD q 0 = c) && stB l p (q + 1)

theorem dpB_in {b : Bool} {c : Int} {p : List Int} {q : Nat} (h : q < l.length) : dpB l b (c :: p) q = (decide (l.getD q 0 < c) || (decide (l.getD q 0 = c) && dpB l b p (q + 1))) := by rw [dpB, if_pos h]
theorem dpB_out {b : Bool} {c : Int} {p : List Int} {q : Nat} (h : l.length ≤ q) : dpB l b (c :: p) q = true := by rw [dpB, if_neg (by omega)]

theorem dp_down (hn : Nn l) (b : Bool) : ∀ (p : List Int) (q q' : Nat), q ≤ l.length → q' ≤ l.length → sl (-1) l q' q → dpB l b p q = true → dpB l b p q' = true := by
  intro p
  induction p with
  | nil => intro q q' _ _ _ h; exact h
  | cons c p ih =>
    intro q q' hq hq' hs h
    by_cases h1 : q' < l.length
    · have hx := hn.abv.at h1
      rw [getD_in h1] at hx
      rw [dpB_in h1]
      by_cases h2 : q < l.length
      · rw [dpB_in h2] at h
        rcases sl_head.1 hs with k | ⟨e, k⟩
        · rw [getD_in h1, getD_in h2] at k
          simp only [Bool.or_eq_true, Bool.and_eq_true, decide_eq_true_eq] at h ⊢
          exact .inl (by rcases h with h | ⟨h, -⟩ <;> omega)
        · rw [getD_in h1, getD_in h2] at e
          simp only [Bool.or_eq_true, Bool.and_eq_true, decide_eq_true_eq] at h ⊢
          rcases h with h | ⟨h, k2⟩
          · exact .inl (by omega)
          · exact .inr ⟨by omega, ih (q + 1) (q' + 1) (by omega) (by omega) k k2⟩
      · rcases sl_head.1 hs with k | ⟨e, -⟩
        · rw [getD_in h1, getD_out (i := q) (by omega)] at k; omega
        · rw [getD_in h1, getD_out (i := q) (by omega)] at e; omega
    · exact dpB_out (by omega)

/-- A condition on places that holds from the first one on up to some. -/
theorem down_count {Q : Nat → Bool} : ∀ N, (∀ i j, i < j → j < N → Q j = true → Q i = true) → ∀ j, j < N → (Q j = true ↔ j < (List.range N).countP Q) := by
  intro N
  induction N with
  | zero => intro _ j hj; omega
  | succ N ih =>
    intro hd j hj
    have ih := ih (fun i k h1 h2 => hd i k h1 (by omega))
    have hle : (List.range N).countP Q ≤ N := by
      have := List.countP_le_length (p := Q) (l := List.range N)
      rwa [List.length_range] at this
    rw [List.range_succ, List.countP_append, List.countP_singleton]
    by_cases hN : Q N = true
    · rw [if_pos hN]
      have hall : (List.range N).countP Q = N := by
        have := List.countP_eq_length (p := Q) (l := List.range N)
        rw [List.length_range] at this
        exact this.2 fun i hi => hd i N (List.mem_range.1 hi) (by omega) hN
      rw [hall]
      refine ⟨fun _ => by omega, fun _ => ?_⟩
      by_cases e : j = N
      · rw [e]; exact hN
      · exact hd j N (by omega) (by omega) hN
    · rw [if_neg hN, Nat.add_zero]
      by_cases e : j = N
      · subst e
        exact ⟨fun h => absurd h hN, fun h => by omega⟩
      · exact ih j (by omega)

theorem countP_map' {β γ : Type} (f : β → γ) (P : γ → Bool) (xs : List β) : (xs.map f).countP P = xs.countP fun x => P (f x) := by
  rw [List.countP_map]; rfl
theorem countP_range (xs : List Int) (f : Int → Bool) : xs.countP f = (List.range xs.length).countP fun i => f (xs.getD i 0) := by
  have e : xs = (List.range xs.length).map fun i => xs.getD i 0 := by
    apply List.ext_getElem (by simp)
    intro i h1 h2
    simp [List.getD_eq_getElem?_getD, h1]
  conv => lhs; rw [e]
  exact countP_map' _ _ _
theorem countP_lt (g : Nat → Bool) : ∀ N i, i ≤ N → (List.range N).countP (fun k => decide (k < i) && g k) = (List.range i).countP g := by
  intro N
  induction N with
  | zero => intro i hi; obtain rfl : i = 0 := by omega
            rfl
  | succ N ih =>
    intro i hi
    by_cases e : i = N + 1
    · subst e
      refine List.countP_congr fun k hk => ?_
      have := List.mem_range.1 hk
      simp [this]
    · rw [List.range_succ, List.countP_append, ih i (by omega), List.countP_singleton, if_neg (by simp; omega), Nat.add_zero]
theorem countP_both {β : Type} (p q : β → Bool) : ∀ xs : List β, (∀ x ∈ xs, ¬ (p x = true ∧ q x = true)) → (xs.countP fun x => p x || q x) = xs.countP p + xs.countP q := by
  intro xs
  induction xs with
  | nil => intro _; rfl
  | cons x xs ih =>
    intro h
    have h1 := ih (fun y hy => h y (by simp [hy]))
    have h2 := h x (by simp)
    rw [List.countP_cons, List.countP_cons, List.countP_cons, h1]
    cases hp : p x <;> cases hq : q x <;> simp_all <;> omega

theorem allA_perm (l : List Int) : (allA l).Perm (plcs (l.length + 1)) := by
  rw [plcs_succ]
  unfold allA sufA
  exact (((ordP_same (sfK l) l.length).perm.symm).cons _).trans (List.perm_append_singleton _ _).symm
/-- The row turned has the row's numbers, and -1. -/
theorem turn_perm (l : List Int) : (turnL l).Perm (-1 :: l) := by
  have h2 := (allA_perm l).map (ahdI l)
  have h3 : (plcs (l.length + 1)).map (ahdI l) = -1 :: l := by
    apply List.ext_getElem (by simp [plcs_length])
    intro i hi hi'
    rw [List.getElem_map]
    have : (plcs (l.length + 1))[i]'(by rw [plcs_length]; simpa using hi') = (i : Int) := by
      have := plcs_at (l.length + 1) i (by simpa using hi')
      rw [List.getD_eq_getElem?_getD, List.getElem?_eq_getElem (by rw [plcs_length]; simpa using hi'), Option.getD_some] at this
      exact this
    rw [this]
    unfold ahdI
    cases i with
    | zero => rfl
    | succ i =>
      rw [if_neg (by omega), Int.toNat_natCast, Nat.add_sub_cancel, List.getElem_cons_succ]
      have : i < l.length := by simpa using hi'
      simp [List.getD_eq_getElem?_getD, this]
  rw [← h3]
  exact h2

/-- As many places hold a condition as suffixes do. -/
theorem place_count (l : List Int) (P : Nat → Bool) : (List.range (l.length + 1)).countP P = (List.range (l.length + 1)).countP fun j => P (plA l j) := by
  have h1 := (allA_perm l).countP_eq (fun x : Int => P x.toNat)
  rw [countP_range, allA_len, countP_range (plcs (l.length + 1)), plcs_length] at h1
  rw [show (List.range (l.length + 1)).countP (fun j => P (plA l j)) = (List.range (l.length + 1)).countP fun i => P ((allA l).getD i 0).toNat from rfl, h1]
  refine List.countP_congr fun k hk => ?_
  have hk := List.mem_range.1 hk
  rw [plcs_at _ _ hk, Int.toNat_natCast]

theorem dp_iff (h : I64s l) (hn : Nn l) (b : Bool) (p : List Int) {q : Nat} (hq : q ≤ l.length) : dpB l b p q = true ↔ plR l q < frN l b p := by
  obtain ⟨h1, h2⟩ := plR_ok h hn hq
  have := down_count (Q := fun j => dpB l b p (plA l j)) (l.length + 1) (fun i j hij hj hQ => dp_down hn b p _ _ (allA_at h hn (by omega)).2 (allA_at h hn (by omega)).2 (plA_up h hn hij (by omega)) hQ) (plR l q) (by omega)
  rw [← place_count] at this
  simp only [h2] at this
  exact this
theorem frN_le (l : List Int) (b : Bool) (p : List Int) : frN l b p ≤ l.length + 1 := by
  have := List.countP_le_length (p := dpB l b p) (l := List.range (l.length + 1))
  rwa [List.length_range] at this
theorem frN_nil_no (l : List Int) : frN l false [] = 0 := by
  unfold frN
  rw [List.countP_eq_zero]
  intro q _
  simp [dpB]
theorem frN_nil_yes (l : List Int) : frN l true [] = l.length + 1 := by
  unfold frN
  have := (List.countP_eq_length (p := dpB l true []) (l := List.range (l.length + 1))).2 (fun q _ => by simp [dpB])
  rwa [List.length_range] at this
theorem dp_mono (l : List Int) : ∀ (p : List Int) (q : Nat), dpB l false p q = true → dpB l true p q = true := by
  intro p
  induction p with
  | nil => intro q h; rfl
  | cons c p ih =>
    intro q h
    by_cases hq : q < l.length
    · rw [dpB_in hq] at h ⊢
      simp only [Bool.or_eq_true, Bool.and_eq_true] at h ⊢
      exact h.imp id fun ⟨h1, h2⟩ => ⟨h1, ih _ h2⟩
    · exact dpB_out (by omega)
theorem frN_mono (l : List Int) (p : List Int) : frN l false p ≤ frN l true p := List.countP_mono_left fun q _ h => dp_mono l p q h

/-! ## A symbol ahead -/
/-- How many suffixes are less than those with c ahead of the first i: counted in the row turned. -/
def lfN (l : List Int) (c : Int) (i : Nat) : Nat := (turnL l).countP (fun x => decide (x < c)) + ((turnL l).take i).countP fun x => decide (x = c)

theorem turn_less (l : List Int) {c : Int} (hc : 0 ≤ c) : (turnL l).countP (fun x => decide (x < c)) = 1 + (List.range l.length).countP fun q => decide (l.getD q 0 < c) := by
  rw [(turn_perm l).countP_eq, List.countP_cons, if_pos (by simp; omega), countP_range l]
  omega
theorem turn_R (h : I64s l) (hn : Nn l) {q : Nat} (hq : q ≤ l.length) : (turnL l).getD (plR l q) 0 = if q = 0 then -1 else l.getD (q - 1) 0 := by
  obtain ⟨h1, h2⟩ := plR_ok h hn hq
  rw [turn_at h hn h1, h2]
theorem turn_with (h : I64s l) (hn : Nn l) (b : Bool) (p : List Int) {c : Int} (hc : 0 ≤ c) : ((turnL l).take (frN l b p)).countP (fun x => decide (x = c)) = (List.range l.length).countP fun q => decide (l.getD q 0 = c) && dpB l b p (q + 1) := by
  have hf := frN_le l b p
  rw [countP_range, List.length_take, turnL_len, Nat.min_eq_left hf]
  have e1 : ((List.range (frN l b p)).countP fun i => decide (((turnL l).take (frN l b p)).getD i 0 = c)) = (List.range (l.length + 1)).countP fun k => decide (k < frN l b p) && decide ((turnL l).getD k 0 = c) := by
    rw [countP_lt _ _ _ hf]
    refine List.countP_congr fun k hk => ?_
    have hk := List.mem_range.1 hk
    simp [List.getD_eq_getElem?_getD, hk]
  rw [e1]
  have e2 : ((List.range (l.length + 1)).countP fun k => decide (k < frN l b p) && decide ((turnL l).getD k 0 = c)) = (List.range (l.length + 1)).countP fun j => (fun q => dpB l b p q && decide ((turnL l).getD (plR l q) 0 = c)) (plA l j) := by
    refine List.countP_congr fun j hj => ?_
    have hj : j ≤ l.length := by have := List.mem_range.1 hj; omega
    have h1 := dp_iff h hn b p (allA_at h hn hj).2
    rw [plR_plA h hn hj] at h1
    simp only [Bool.and_eq_true, decide_eq_true_eq, plR_plA h hn hj, h1]
  rw [e2, ← place_count l (fun q => dpB l b p q && decide ((turnL l).getD (plR l q) 0 = c)), List.range_succ_eq_map, List.countP_cons]
  rw [if_neg (by rw [turn_R h hn (Nat.zero_le _), if_pos rfl]; simp; omega), Nat.add_zero, countP_map']
  refine List.countP_congr fun q hq => ?_
  have hq := List.mem_range.1 hq
  rw [turn_R h hn (by omega), if_neg (by omega), show q.succ - 1 = q by omega]
  simp only [Bool.and_eq_true]
  exact And.comm
/-- One symbol more. -/
theorem lf_ok (h : I64s l) (hn : Nn l) (b : Bool) (p : List Int) {c : Int} (hc : 0 ≤ c) : frN l b (c :: p) = lfN l c (frN l b p) := by
  unfold lfN
  rw [turn_less l hc, turn_with h hn b p hc]
  unfold frN
  rw [List.range_succ, List.countP_append, List.countP_singleton, if_pos (dpB_out (Nat.le_refl _))]
  have e : (List.range l.length).countP (dpB l b (c :: p)) = (List.range l.length).countP (fun q => decide (l.getD q 0 < c)) + (List.range l.length).countP (fun q => decide (l.getD q 0 = c) && dpB l b p (q + 1)) := by
    rw [← countP_both]
    · refine List.countP_congr fun q hq => ?_
      rw [dpB_in (List.mem_range.1 hq)]
    · intro q _ hh
      simp only [Bool.and_eq_true, decide_eq_true_eq] at hh
      omega
  rw [e]
  omega
/-- No symbol: below all, or above. -/
theorem fr_low (hn : Nn l) (b : Bool) (p : List Int) {c : Int} (hc : c < 0) : frN l b (c :: p) = 1 := by
  unfold frN
  rw [List.range_succ, List.countP_append, List.countP_singleton, if_pos (dpB_out (Nat.le_refl _)), List.countP_eq_zero.2]
  intro q hq
  have hq := List.mem_range.1 hq
  have := hn.abv.at hq
  rw [getD_in hq] at this
  rw [dpB_in hq]
  simp only [Bool.or_eq_true, Bool.and_eq_true, decide_eq_true_eq]
  omega
theorem fr_high (b : Bool) (p : List Int) {c : Int} (hc : ∀ x ∈ l, x < c) : frN l b (c :: p) = l.length + 1 := by
  unfold frN
  have := (List.countP_eq_length (p := dpB l b (c :: p)) (l := List.range (l.length + 1))).2 (fun q hq => by
    by_cases h : q < l.length
    · rw [dpB_in h]
      have := hc _ (getD_mem (b := 0) h)
      rw [decide_eq_true this, Bool.true_or]
    · exact dpB_out (by omega))
  rwa [List.length_range] at this

/-! ## The place of a suffix -/
theorem dp_suf (hn : Nn l) : ∀ (d q q' : Nat), q + d = l.length → q' ≤ l.length → (dpB l false (l.drop q) q' = true ↔ sl (-1) l q' q) := by
  intro d
  induction d with
  | zero =>
    intro q q' hq hq'
    rw [drop_end (by omega)]
    simp only [dpB, Bool.false_eq_true, false_iff]
    intro hs
    obtain rfl : q = l.length := by omega
    by_cases e : q' < l.length
    · exact absurd hs (sl_empty hn e).asymm
    · obtain rfl : q' = l.length := by omega
      exact absurd hs lx.irr
  | succ d ih =>
    intro q q' hq hq'
    rw [at_drop (by omega), sl_head]
    by_cases h : q' < l.length
    · rw [dpB_in h, getD_in (b := -1) h, getD_in (b := -1) (show q < l.length by omega)]
      simp only [Bool.or_eq_true, Bool.and_eq_true, decide_eq_true_eq]
      rw [ih (q + 1) (q' + 1) (by omega) (by omega)]
    · rw [dpB_out (by omega)]
      have := hn.abv.at (show q < l.length by omega)
      rw [getD_out (i := q') (by omega)]
      simp only [true_iff]
      exact .inl this
theorem fr_suf (h : I64s l) (hn : Nn l) {q : Nat} (hq : q ≤ l.length) : frN l false (l.drop q) = plR l q := by
  have hle := frN_le l false (l.drop q)
  have h1 := plR_ok h hn hq
  rcases Nat.lt_trichotomy (frN l false (l.drop q)) (plR l q) with k | k | k
  · exfalso
    have h2 := (allA_at h hn (j := frN l false (l.drop q)) (by omega)).2
    have h3 := (dp_iff h hn false (l.drop q) h2)
    rw [plR_plA h hn (by omega)] at h3
    have h4 := (dp_suf hn (l.length - q) q _ (by omega) h2).2 (by
      rw [← h1.2]
      have := plA_up h hn k h1.1
      rwa [h1.2] at this ⊢)
    exact absurd (h3.1 h4) (Nat.lt_irrefl _)
  · exact k
  · exfalso
    have h3 := (dp_iff h hn false (l.drop q) hq).2 k
    rw [dp_suf hn (l.length - q) q q (by omega) hq] at h3
    exact lx.irr h3
/-- From a suffix's place to that of the one that is longer by one. -/
theorem lf_suf (h : I64s l) (hn : Nn l) {q : Nat} (hq : q < l.length) : lfN l (l.getD q 0) (plR l (q + 1)) = plR l q := by
  have h0 : 0 ≤ l.getD q 0 := hn _ (getD_mem hq)
  have := lf_ok h hn false (l.drop (q + 1)) h0
  rw [← at_drop hq, fr_suf h hn (by omega), fr_suf h hn (by omega)] at this
  exact this.symm

/-! ## Less, and where a row stands -/
theorem ltB_dp (l : List Int) : ∀ (p : List Int) (q : Nat), q ≤ l.length → ltB (l.drop q) p = dpB l false p q := by
  intro p
  induction p with
  | nil => intro q _; rw [ltB_nil_r]; rfl
  | cons c p ih =>
    intro q hq
    by_cases h : q < l.length
    · rw [at_drop h, ltB_cc, dpB_in h, ih (q + 1) (by omega)]
      by_cases h1 : l.getD q 0 < c
      · rw [if_pos h1, decide_eq_true h1, Bool.true_or]
      · rw [if_neg h1, decide_eq_false h1, Bool.false_or]
        by_cases h2 : c < l.getD q 0
        · rw [if_pos h2, decide_eq_false (by omega), Bool.false_and]
        · rw [if_neg h2, decide_eq_true (by omega), Bool.true_and]
    · rw [drop_end (by omega), dpB_out (by omega)]; rfl
theorem st_dp (l : List Int) : ∀ (p : List Int) (q : Nat), q ≤ l.length → (stB l p q = true ↔ dpB l true p q = true ∧ dpB l false p q = false) := by
  intro p
  induction p with
  | nil => intro q hq; simp [stB, dpB, hq]
  | cons c p ih =>
    intro q hq
    by_cases h : q < l.length
    · rw [dpB_in h, dpB_in h]
      unfold stB
      have := ih (q + 1) (by omega)
      simp only [Bool.and_eq_true, decide_eq_true_eq, Bool.or_eq_true, Bool.or_eq_false_iff, decide_eq_false_iff_not, Bool.and_eq_false_iff]
      rw [this]
      constructor
      · rintro ⟨⟨-, e⟩, h1, h2⟩
        exact ⟨.inr ⟨e, h1⟩, by omega, .inr h2⟩
      · rintro ⟨h1 | ⟨e, h1⟩, h2, h3⟩
        · omega
        · exact ⟨⟨h, e⟩, h1, h3.resolve_left (fun k => k e)⟩
    · rw [dpB_out (by omega), dpB_out (by omega)]
      simp [stB, h]
theorem st_iff (h : I64s l) (hn : Nn l) (p : List Int) {q : Nat} (hq : q ≤ l.length) : stB l p q = true ↔ frN l false p ≤ plR l q ∧ plR l q < frN l true p := by
  have h1 := dp_iff h hn true p hq
  have h2 := dp_iff h hn false p hq
  rw [st_dp l p q hq, h1]
  have : dpB l false p q = false ↔ ¬ (plR l q < frN l false p) := by rw [← h2]; simp
  rw [this]
  omega
theorem st_at : ∀ (p : List Int) (q : Nat), stB l p q = true ↔ (q + p.length ≤ l.length ∧ ∀ i, i < p.length → l.getD (q + i) 0 = p.getD i 0) := by
  intro p
  induction p with
  | nil => intro q; simp [stB]
  | cons c p ih =>
    intro q
    unfold stB
    simp only [Bool.and_eq_true, decide_eq_true_eq]
    rw [ih (q + 1)]
    constructor
    · rintro ⟨⟨h1, h2⟩, h3, h4⟩
      refine ⟨by rw [List.length_cons]; omega, fun i hi => ?_⟩
      cases i with
      | zero => exact h2
      | succ i =>
        rw [List.length_cons] at hi
        have := h4 i (by omega)
        rw [List.getD_cons_succ, ← this, show q + (i + 1) = q + 1 + i by omega]
    · rintro ⟨h1, h2⟩
      rw [List.length_cons] at h1 h2
      refine ⟨⟨by omega, h2 0 (by omega)⟩, by omega, fun i hi => ?_⟩
      have := h2 (i + 1) (by omega)
      rw [List.getD_cons_succ] at this
      rw [← this, show q + (i + 1) = q + 1 + i by omega]

end Go.Proofs.YtpnjccomngdblaaGreat

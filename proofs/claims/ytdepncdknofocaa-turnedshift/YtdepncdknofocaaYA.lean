/- Plain facts: the row turned; what its order is; the way back. No program is named here. -/
import Derived.Test.YtdepncdknofocaaXC
import Derived.Test.YtdepncdknofocaaOK
set_option maxRecDepth 100000
namespace Go.Proofs.Ytdepncdknofocaa

variable {l b : List Int}

/-- Numbers from 0 on. -/
def Nn (l : List Int) : Prop := ∀ x ∈ l, 0 ≤ x
theorem Nn.abv (h : Nn l) : Abv (-1) l := fun x hx => by have := h x hx; omega

/-- The suffixes in order, the empty one first; the number ahead of one; the row turned. -/
def allA (l : List Int) : List Int := (l.length : Int) :: sufA l
def ahdI (l : List Int) (p : Int) : Int := if p = 0 then -1 else l.getD (p.toNat - 1) 0
def turnL (l : List Int) : List Int := (allA l).map (ahdI l)
/-- Which suffix stands at a place; where one stands. -/
def plA (l : List Int) (j : Nat) : Nat := ((allA l).getD j 0).toNat
def plR (l : List Int) (p : Nat) : Nat := (allA l).idxOf (p : Int)

theorem allA_len (l : List Int) : (allA l).length = l.length + 1 := by simp [allA, sufA_len]
theorem turnL_len (l : List Int) : (turnL l).length = l.length + 1 := by simp [turnL, allA_len]

/-- The order by a lesser end. -/
theorem suf_end (h : I64s l) (hn : Nn l) : SA (-1) l (sufA l) :=
  (sufA_ok h).map rfl (fun p q _ _ hs => (sl_map rfl (i64_abv h) hn.abv (fun _ _ _ _ => Iff.rfl) p q).1 hs)

theorem plA_zero (l : List Int) : plA l 0 = l.length := by simp [plA, allA]
theorem plA_succ (h : I64s l) (hn : Nn l) {j : Nat} (hj : j < l.length) : (sufA l).getD j 0 = (plA l (j + 1) : Int) ∧ plA l (j + 1) < l.length := by
  obtain ⟨p, e, hp⟩ := (suf_end h hn).pl hj
  have : plA l (j + 1) = p := by
    unfold plA allA
    rw [List.getD_cons_succ, e, Int.toNat_natCast]
  rw [this]; exact ⟨e, hp⟩
theorem allA_at (h : I64s l) (hn : Nn l) {j : Nat} (hj : j ≤ l.length) : (allA l).getD j 0 = (plA l j : Int) ∧ plA l j ≤ l.length := by
  cases j with
  | zero => rw [plA_zero]; exact ⟨rfl, Nat.le_refl _⟩
  | succ j =>
    obtain ⟨e, hp⟩ := plA_succ h hn (j := j) (by omega)
    refine ⟨?_, by omega⟩
    rw [← e]; rfl
theorem sl_empty (hn : Nn l) {q : Nat} (hq : q < l.length) : sl (-1) l l.length q := by
  refine ⟨0, fun m hm => by omega, ?_⟩
  unfold sf
  rw [Nat.add_zero, Nat.add_zero, getD_out (Nat.le_refl _)]
  exact hn.abv.at hq
theorem plA_up (h : I64s l) (hn : Nn l) {i j : Nat} (hij : i < j) (hj : j ≤ l.length) : sl (-1) l (plA l i) (plA l j) := by
  obtain ⟨j, rfl⟩ : ∃ k, j = k + 1 := ⟨j - 1, by omega⟩
  have h1 := plA_succ h hn (j := j) (by omega)
  cases i with
  | zero => rw [plA_zero]; exact sl_empty hn h1.2
  | succ i =>
    have h2 := plA_succ h hn (j := i) (by omega)
    exact ((suf_end h hn).iff (i := i) (j := j) (by omega) (by omega) h2.1 h1.1).1 (by omega)
theorem plA_inj (h : I64s l) (hn : Nn l) {i j : Nat} (hi : i ≤ l.length) (hj : j ≤ l.length) (e : plA l i = plA l j) : i = j := by
  rcases Nat.lt_trichotomy i j with k | k | k
  · have := plA_up h hn k hj; rw [e] at this; exact absurd this lx.irr
  · exact k
  · have := plA_up h hn k hi; rw [e] at this; exact absurd this lx.irr
theorem plA_has (h : I64s l) (hn : Nn l) {p : Nat} (hp : p ≤ l.length) : ∃ j, j ≤ l.length ∧ plA l j = p := by
  by_cases e : p = l.length
  · exact ⟨0, Nat.zero_le _, by rw [plA_zero, e]⟩
  · obtain ⟨i, hi, e2⟩ := (suf_end h hn).has p (by omega)
    have := plA_succ h hn (j := i) hi
    exact ⟨i + 1, by omega, by omega⟩
theorem plR_ok (h : I64s l) (hn : Nn l) {p : Nat} (hp : p ≤ l.length) : plR l p ≤ l.length ∧ plA l (plR l p) = p := by
  obtain ⟨j, hj, e⟩ := plA_has h hn hp
  have hm : (p : Int) ∈ allA l := by
    have := (allA_at h hn hj).1
    rw [e] at this
    rw [← this]
    exact getD_mem (by rw [allA_len]; omega)
  have hlt := List.idxOf_lt_length_of_mem hm
  have hge := List.getElem_idxOf hlt
  rw [allA_len] at hlt
  refine ⟨by unfold plR; omega, ?_⟩
  unfold plA plR
  rw [List.getD_eq_getElem?_getD, List.getElem?_eq_getElem (by rw [allA_len]; omega), Option.getD_some, hge, Int.toNat_natCast]
theorem plR_plA (h : I64s l) (hn : Nn l) {j : Nat} (hj : j ≤ l.length) : plR l (plA l j) = j := by
  have h1 := (allA_at h hn hj).2
  have h2 := plR_ok h hn h1
  exact plA_inj h hn h2.1 hj h2.2
theorem plR_len (h : I64s l) (hn : Nn l) : plR l l.length = 0 := by
  have := plR_plA h hn (j := 0) (Nat.zero_le _)
  rwa [plA_zero] at this
theorem plR_lt (h : I64s l) (hn : Nn l) {p q : Nat} (hp : p ≤ l.length) (hq : q ≤ l.length) : plR l p < plR l q ↔ sl (-1) l p q := by
  obtain ⟨p1, p2⟩ := plR_ok h hn hp
  obtain ⟨q1, q2⟩ := plR_ok h hn hq
  constructor
  · intro hlt
    have := plA_up h hn hlt q1
    rwa [p2, q2] at this
  · intro hs
    rcases Nat.lt_trichotomy (plR l p) (plR l q) with k | k | k
    · exact k
    · have : p = q := by rw [← p2, ← q2, k]
      subst this; exact absurd hs lx.irr
    · have := plA_up h hn k p1
      rw [p2, q2] at this
      exact absurd hs this.asymm

theorem turn_at (h : I64s l) (hn : Nn l) {j : Nat} (hj : j ≤ l.length) : (turnL l).getD j 0 = if plA l j = 0 then -1 else l.getD (plA l j - 1) 0 := by
  have h1 := (allA_at h hn hj).1
  have h2 : (turnL l).getD j 0 = ahdI l ((allA l).getD j 0) := by
    unfold turnL
    rw [List.getD_eq_getElem?_getD, List.getElem?_map, List.getElem?_eq_getElem (by rw [allA_len]; omega), List.getD_eq_getElem?_getD, List.getElem?_eq_getElem (by rw [allA_len]; omega)]
    rfl
  rw [h2, h1]
  unfold ahdI
  rw [Int.toNat_natCast]
  by_cases e : plA l j = 0
  · rw [if_pos e, if_pos (by omega)]
  · rw [if_neg e, if_neg (by omega)]

/-- The place of the suffix behind the one at a place; for that of the empty one that of the whole row. -/
def nxF (l : List Int) (j : Nat) : Nat := if plA l j = l.length then plR l 0 else plR l (plA l j + 1)
def nextL (l : List Int) : List Int := (List.range (l.length + 1)).map fun j => (nxF l j : Int)
theorem nextL_len (l : List Int) : (nextL l).length = l.length + 1 := by simp [nextL]
theorem nextL_at (l : List Int) {j : Nat} (hj : j ≤ l.length) : (nextL l).getD j 0 = (nxF l j : Int) := by
  have : j < l.length + 1 := by omega
  simp [nextL, List.getD_eq_getElem?_getD, this]
theorem nxF_le (h : I64s l) (hn : Nn l) {j : Nat} (hj : j ≤ l.length) : nxF l j ≤ l.length := by
  have := (allA_at h hn hj).2
  unfold nxF
  split
  · exact (plR_ok h hn (Nat.zero_le _)).1
  · exact (plR_ok h hn (by omega)).1
theorem nxF_R (h : I64s l) (hn : Nn l) {p : Nat} (hp : p < l.length) : nxF l (plR l p) = plR l (p + 1) := by
  unfold nxF
  rw [(plR_ok h hn (Nat.le_of_lt hp)).2, if_neg (by omega)]
theorem nxF_zero (l : List Int) : nxF l 0 = plR l 0 := by
  unfold nxF
  rw [plA_zero, if_pos rfl]
theorem turn_nx (h : I64s l) (hn : Nn l) {j : Nat} (hj : j ≤ l.length) : (turnL l).getD (nxF l j) 0 = l.getD (plA l j) (-1) := by
  have hA := (allA_at h hn hj).2
  rw [turn_at h hn (nxF_le h hn hj)]
  unfold nxF
  by_cases e : plA l j = l.length
  · rw [if_pos e, (plR_ok h hn (Nat.zero_le _)).2, if_pos rfl, e, getD_out (Nat.le_refl _)]
  · rw [if_neg e, (plR_ok h hn (by omega)).2, if_neg (by omega), Nat.add_sub_cancel]
    exact (getD_in (b := -1) (by omega)).symm

theorem sf_tail (x : Int) (l : List Int) (p m : Nat) : sf x l (p + 1) m = sf x l p (m + 1) := by
  unfold sf
  rw [show p + 1 + m = p + (m + 1) by omega]
theorem sl_head {p q : Nat} : sl (-1) l p q ↔ l.getD p (-1) < l.getD q (-1) ∨ (l.getD p (-1) = l.getD q (-1) ∧ sl (-1) l (p + 1) (q + 1)) := by
  constructor
  · rintro ⟨k, h1, h2⟩
    cases k with
    | zero => exact .inl h2
    | succ k =>
      refine .inr ⟨h1 0 (by omega), k, fun m hm => ?_, ?_⟩
      · rw [sf_tail, sf_tail]; exact h1 (m + 1) (by omega)
      · rw [sf_tail, sf_tail]; exact h2
  · rintro (h | ⟨h, k, h1, h2⟩)
    · exact ⟨0, fun m hm => by omega, h⟩
    · refine ⟨k + 1, fun m hm => ?_, ?_⟩
      · cases m with
        | zero => exact h
        | succ m => rw [← sf_tail, ← sf_tail]; exact h1 m (by omega)
      · rw [← sf_tail, ← sf_tail]; exact h2

/-- One is less, or stands ahead. -/
def Ahd (κ : Int → Int) (x y : Int) : Prop := κ x < κ y ∨ (κ x = κ y ∧ x < y)
theorem ord_uniq {κ : Int → Int} {n : Nat} {o : List Int} (h1 : o.Pairwise (Ahd κ)) (h2 : ∀ x, x ∈ o ↔ 0 ≤ x ∧ x < n) : o = ordP κ n := by
  refine pw_uniq (R := Ahd κ) (fun x h => by unfold Ahd at h; omega) (fun x y h k => by unfold Ahd at h k; omega) h1 ?_ (fun x => by rw [h2 x, ordP_mem])
  rw [List.pairwise_iff_getElem]
  intro i j hi hj hij
  rw [ordP_length] at hi hj
  have := ordP_rise κ n hij hj
  simp only [List.getD_eq_getElem?_getD, List.getElem?_eq_getElem (show i < (ordP κ n).length by rw [ordP_length]; exact hi), List.getElem?_eq_getElem (show j < (ordP κ n).length by rw [ordP_length]; exact hj), Option.getD_some] at this
  exact this

theorem kyI_nat (l : List Int) (j : Nat) : kyI l (j : Int) = l.getD j 0 := by unfold kyI; rw [Int.toNat_natCast]

/-- The places of the row turned, in order, are the places of the suffixes behind. -/
theorem turn_ord (h : I64s l) (hn : Nn l) : ordP (kyI (turnL l)) (l.length + 1) = nextL l := by
  symm
  apply ord_uniq
  · unfold nextL
    rw [List.pairwise_map]
    refine List.Pairwise.imp_of_mem (fun {i j} hi hj hij => ?_) List.pairwise_lt_range
    have hi := List.mem_range.1 hi
    have hj := List.mem_range.1 hj
    have ai := (allA_at h hn (j := i) (by omega)).2
    have aj := (allA_at h hn (j := j) (by omega)).2
    have hs := plA_up h hn hij (by omega)
    have hne : plA l i ≠ plA l j := fun e => by rw [e] at hs; exact absurd hs lx.irr
    unfold Ahd
    rw [kyI_nat, kyI_nat, turn_nx h hn (by omega), turn_nx h hn (by omega)]
    rcases sl_head.1 hs with hs | ⟨e, hs⟩
    · exact .inl hs
    · refine .inr ⟨e, ?_⟩
      have hp : plA l i < l.length := by
        apply Nat.not_le.1
        intro hle
        rw [getD_out hle] at e
        have := (hn.abv.iff _).1 e.symm
        omega
      have hq : plA l j < l.length := by
        apply Nat.not_le.1
        intro hle
        rw [getD_out (i := plA l j) hle] at e
        have := (hn.abv.iff _).1 e
        omega
      have := (plR_lt h hn (p := plA l i + 1) (q := plA l j + 1) (by omega) (by omega)).2 hs
      unfold nxF
      rw [if_neg (by omega), if_neg (by omega)]
      omega
  · intro x
    unfold nextL
    rw [List.mem_map]
    constructor
    · rintro ⟨j, hj, rfl⟩
      have := nxF_le h hn (j := j) (by have := List.mem_range.1 hj; omega)
      omega
    · rintro ⟨h0, h1⟩
      obtain ⟨k, rfl⟩ : ∃ k : Nat, x = (k : Int) := ⟨x.toNat, by omega⟩
      have hk : k ≤ l.length := by omega
      have ak := (allA_at h hn hk).2
      by_cases e : plA l k = 0
      · refine ⟨0, List.mem_range.2 (by omega), ?_⟩
        rw [nxF_zero, ← e, plR_plA h hn hk]
      · refine ⟨plR l (plA l k - 1), List.mem_range.2 (by have := (plR_ok h hn (p := plA l k - 1) (by omega)).1; omega), ?_⟩
        rw [nxF_R h hn (by omega), show plA l k - 1 + 1 = plA l k by omega, plR_plA h hn hk]

/-- Does -1 stand there once, among numbers from 0 on? -/
def Ended (b : List Int) : Prop := ∃ k, k < b.length ∧ b.getD k 0 = -1 ∧ ∀ j, j < b.length → j ≠ k → 0 ≤ b.getD j 0
theorem turn_ended (h : I64s l) (hn : Nn l) : Ended (turnL l) := by
  obtain ⟨h1, h2⟩ := plR_ok h hn (p := 0) (Nat.zero_le _)
  refine ⟨plR l 0, by rw [turnL_len]; omega, by rw [turn_at h hn h1, h2, if_pos rfl], fun j hj hne => ?_⟩
  rw [turnL_len] at hj
  have ha := (allA_at h hn (j := j) (by omega)).2
  have h0 : plA l j ≠ 0 := fun e => hne (by rw [← e, plR_plA h hn (by omega)])
  rw [turn_at h hn (by omega), if_neg h0]
  exact hn _ (getD_mem (by omega))

/-- From 0 on, step by step. -/
def itS (f : Nat → Nat) : Nat → Nat
  | 0 => 0
  | i + 1 => f (itS f i)
/-- The next place, by a list. -/
def sgL (o : List Int) (j : Nat) : Nat := (o.getD j 0).toNat

theorem it_turn (h : I64s l) (hn : Nn l) : ∀ k, k ≤ l.length → itS (sgL (nextL l)) (k + 1) = plR l k := by
  intro k
  induction k with
  | zero =>
    intro _
    show sgL (nextL l) 0 = _
    unfold sgL
    rw [nextL_at l (Nat.zero_le _), nxF_zero, Int.toNat_natCast]
  | succ k ih =>
    intro hk
    show sgL (nextL l) (itS (sgL (nextL l)) (k + 1)) = _
    rw [ih (by omega)]
    unfold sgL
    rw [nextL_at l (plR_ok h hn (by omega)).1, Int.toNat_natCast, nxF_R h hn (by omega)]
theorem plR_pos (h : I64s l) (hn : Nn l) {p : Nat} (hp : p < l.length) : plR l p ≠ 0 := fun e => by
  have := (plR_ok h hn (Nat.le_of_lt hp)).2
  rw [e, plA_zero] at this
  omega
theorem turn_back (h : I64s l) (hn : Nn l) {p : Nat} (hp : p < l.length) : (turnL l).getD (plR l (p + 1)) 0 = l.getD p 0 := by
  obtain ⟨h1, h2⟩ := plR_ok h hn (p := p + 1) (by omega)
  rw [turn_at h hn h1, h2, if_neg (by omega), Nat.add_sub_cancel]

end Go.Proofs.Ytdepncdknofocaa

/- Merged out of: YA YB YC YD YE YF YG. -/
import Derived.Test.YtpnjccomngdblaaGreatXX
import Derived.Test.YtpnjccomngdblaaGreatOO
import Derived.StillTailTactics
import Derived.Deep.LoopGhost

section
/- Plain facts: the row turned; what its order is; the way back. No program is named here. -/
set_option maxRecDepth 100000
namespace Go.Proofs.YtpnjccomngdblaaGreat

variable {l b : List Int}

/-- Numbers from 0 on. -/
def Nn (l : List Int) : Prop := ∀ x ∈ l, 0 ≤ x
theorem Nn.abv (h : Nn l) : Abv (-1) l := fun x hx => by have := h x hx; omega

/-- The suffixes in order, the empty one first; the number ahead of one; the row turned. -/
def allA (l : List Int) : List Int := (l.length : Int) :: sufA l
def ahdI (l : List Int) (p : Int) : Int := if p = 0 then -1 else l.getD (p.toNat - 1) 0
def turnL (l : List Int) : List Int := (allA l).map (ahdI l)
/-- Which suffix stands at a place; where one stands. -/
def plA (l : List Int) (j : Nat) : Nat := ((allA l).getD j 0).toNat
def plR (l : List Int) (p : Nat) : Nat := (allA l).idxOf (p : Int)

theorem allA_len (l : List Int) : (allA l).length = l.length + 1 := by simp [allA, sufA_len]
theorem turnL_len (l : List Int) : (turnL l).length = l.length + 1 := by simp [turnL, allA_len]

/-- The order by a lesser end. -/
theorem suf_end (h : I64s l) (hn : Nn l) : SA (-1) l (sufA l) :=
  (sufA_ok h).map rfl (fun p q _ _ hs => (sl_map rfl (i64_abv h) hn.abv (fun _ _ _ _ => Iff.rfl) p q).1 hs)

theorem plA_zero (l : List Int) : plA l 0 = l.length := by simp [plA, allA]
theorem plA_succ (h : I64s l) (hn : Nn l) {j : Nat} (hj : j < l.length) : (sufA l).getD j 0 = (plA l (j + 1) : Int) ∧ plA l (j + 1) < l.length := by
  obtain ⟨p, e, hp⟩ := (suf_end h hn).pl hj
  have : plA l (j + 1) = p := by
    unfold plA allA
    rw [List.getD_cons_succ, e, Int.toNat_natCast]
  rw [this]; exact ⟨e, hp⟩
theorem allA_at (h : I64s l) (hn : Nn l) {j : Nat} (hj : j ≤ l.length) : (allA l).getD j 0 = (plA l j : Int) ∧ plA l j ≤ l.length := by
  cases j with
  | zero => rw [plA_zero]; exact ⟨rfl, Nat.le_refl _⟩
  | succ j =>
    obtain ⟨e, hp⟩ := plA_succ h hn (j := j) (by omega)
    refine ⟨?_, by omega⟩
    rw [← e]; rfl
theorem sl_empty (hn : Nn l) {q : Nat} (hq : q < l.length) : sl (-1) l l.length q := by
  refine ⟨0, fun m hm => by omega, ?_⟩
  unfold sf
  rw [Nat.add_zero, Nat.add_zero, getD_out (Nat.le_refl _)]
  exact hn.abv.at hq
theorem plA_up (h : I64s l) (hn : Nn l) {i j : Nat} (hij : i < j) (hj : j ≤ l.length) : sl (-1) l (plA l i) (plA l j) := by
  obtain ⟨j, rfl⟩ : ∃ k, j = k + 1 := ⟨j - 1, by omega⟩
  have h1 := plA_succ h hn (j := j) (by omega)
  cases i with
  | zero => rw [plA_zero]; exact sl_empty hn h1.2
  | succ i =>
    have h2 := plA_succ h hn (j := i) (by omega)
    exact ((suf_end h hn).iff (i := i) (j := j) (by omega) (by omega) h2.1 h1.1).1 (by omega)
theorem plA_inj (h : I64s l) (hn : Nn l) {i j : Nat} (hi : i ≤ l.length) (hj : j ≤ l.length) (e : plA l i = plA l j) : i = j := by
  rcases Nat.lt_trichotomy i j with k | k | k
  · have := plA_up h hn k hj; rw [e] at this; exact absurd this lx.irr
  · exact k
  · have := plA_up h hn k hi; rw [e] at this; exact absurd this lx.irr
theorem plA_has (h : I64s l) (hn : Nn l) {p : Nat} (hp : p ≤ l.length) : ∃ j, j ≤ l.length ∧ plA l j = p := by
  by_cases e : p = l.length
  · exact ⟨0, Nat.zero_le _, by rw [plA_zero, e]⟩
  · obtain ⟨i, hi, e2⟩ := (suf_end h hn).has p (by omega)
    have := plA_succ h hn (j := i) hi
    exact ⟨i + 1, by omega, by omega⟩
theorem plR_ok (h : I64s l) (hn : Nn l) {p : Nat} (hp : p ≤ l.length) : plR l p ≤ l.length ∧ plA l (plR l p) = p := by
  obtain ⟨j, hj, e⟩ := plA_has h hn hp
  have hm : (p : Int) ∈ allA l := by
    have := (allA_at h hn hj).1
    rw [e] at this
    rw [← this]
    exact getD_mem (by rw [allA_len]; omega)
  have hlt := List.idxOf_lt_length_of_mem hm
  have hge := List.getElem_idxOf hlt
  rw [allA_len] at hlt
  refine ⟨by unfold plR; omega, ?_⟩
  unfold plA plR
  rw [List.getD_eq_getElem?_getD, List.getElem?_eq_getElem (by rw [allA_len]; omega), Option.getD_some, hge, Int.toNat_natCast]
theorem plR_plA (h : I64s l) (hn : Nn l) {j : Nat} (hj : j ≤ l.length) : plR l (plA l j) = j := by
  have h1 := (allA_at h hn hj).2
  have h2 := plR_ok h hn h1
  exact plA_inj h hn h2.1 hj h2.2
theorem plR_len (h : I64s l) (hn : Nn l) : plR l l.length = 0 := by
  have := plR_plA h hn (j := 0) (Nat.zero_le _)
  rwa [plA_zero] at this
theorem plR_lt (h : I64s l) (hn : Nn l) {p q : Nat} (hp : p ≤ l.length) (hq : q ≤ l.length) : plR l p < plR l q ↔ sl (-1) l p q := by
  obtain ⟨p1, p2⟩ := plR_ok h hn hp
  obtain ⟨q1, q2⟩ := plR_ok h hn hq
  constructor
  · intro hlt
    have := plA_up h hn hlt q1
    rwa [p2, q2] at this
  · intro hs
    rcases Nat.lt_trichotomy (plR l p) (plR l q) with k | k | k
    · exact k
    · have : p = q := by rw [← p2, ← q2, k]
      subst this; exact absurd hs lx.irr
    · have := plA_up h hn k p1
      rw [p2, q2] at this
      exact absurd hs this.asymm

theorem turn_at (h : I64s l) (hn : Nn l) {j : Nat} (hj : j ≤ l.length) : (turnL l).getD j 0 = if plA l j = 0 then -1 else l.getD (plA l j - 1) 0 := by
  have h1 := (allA_at h hn hj).1
  have h2 : (turnL l).getD j 0 = ahdI l ((allA l).getD j 0) := by
    unfold turnL
    rw [List.getD_eq_getElem?_getD, List.getElem?_map, List.getElem?_eq_getElem (by rw [allA_len]; omega), List.getD_eq_getElem?_getD, List.getElem?_eq_getElem (by rw [allA_len]; omega)]
    rfl
  rw [h2, h1]
  unfold ahdI
  rw [Int.toNat_natCast]
  by_cases e : plA l j = 0
  · rw [if_pos e, if_pos (by omega)]
  · rw [if_neg e, if_neg (by omega)]

/-- The place of the suffix behind the one at a place; for that of the empty one that of the whole row. -/
def nxF (l : List Int) (j : Nat) : Nat := if plA l j = l.length then plR l 0 else plR l (plA l j + 1)
def nextL (l : List Int) : List Int := (List.range (l.length + 1)).map fun j => (nxF l j : Int)
theorem nextL_len (l : List Int) : (nextL l).length = l.length + 1 := by simp [nextL]
theorem nextL_at (l : List Int) {j : Nat} (hj : j ≤ l.length) : (nextL l).getD j 0 = (nxF l j : Int) := by
  have : j < l.length + 1 := by omega
  simp [nextL, List.getD_eq_getElem?_getD, this]
theorem nxF_le (h : I64s l) (hn : Nn l) {j : Nat} (hj : j ≤ l.length) : nxF l j ≤ l.length := by
  have := (allA_at h hn hj).2
  unfold nxF
  split
  · exact (plR_ok h hn (Nat.zero_le _)).1
  · exact (plR_ok h hn (by omega)).1
theorem nxF_R (h : I64s l) (hn : Nn l) {p : Nat} (hp : p < l.length) : nxF l (plR l p) = plR l (p + 1) := by
  unfold nxF
  rw [(plR_ok h hn (Nat.le_of_lt hp)).2, if_neg (by omega)]
theorem nxF_zero (l : List Int) : nxF l 0 = plR l 0 := by
  unfold nxF
  rw [plA_zero, if_pos rfl]
theorem turn_nx (h : I64s l) (hn : Nn l) {j : Nat} (hj : j ≤ l.length) : (turnL l).getD (nxF l j) 0 = l.getD (plA l j) (-1) := by
  have hA := (allA_at h hn hj).2
  rw [turn_at h hn (nxF_le h hn hj)]
  unfold nxF
  by_cases e : plA l j = l.length
  · rw [if_pos e, (plR_ok h hn (Nat.zero_le _)).2, if_pos rfl, e, getD_out (Nat.le_refl _)]
  · rw [if_neg e, (plR_ok h hn (by omega)).2, if_neg (by omega), Nat.add_sub_cancel]
    exact (getD_in (b := -1) (by omega)).symm

theorem sf_tail (x : Int) (l : List Int) (p m : Nat) : sf x l (p + 1) m = sf x l p (m + 1) := by
  unfold sf
  rw [show p + 1 + m = p + (m + 1) by omega]
theorem sl_head {p q : Nat} : sl (-1) l p q ↔ l.getD p (-1) < l.getD q (-1) ∨ (l.getD p (-1) = l.getD q (-1) ∧ sl (-1) l (p + 1) (q + 1)) := by
  constructor
  · rintro ⟨k, h1, h2⟩
    cases k with
    | zero => exact .inl h2
    | succ k =>
      refine .inr ⟨h1 0 (by omega), k, fun m hm => ?_, ?_⟩
      · rw [sf_tail, sf_tail]; exact h1 (m + 1) (by omega)
      · rw [sf_tail, sf_tail]; exact h2
  · rintro (h | ⟨h, k, h1, h2⟩)
    · exact ⟨0, fun m hm => by omega, h⟩
    · refine ⟨k + 1, fun m hm => ?_, ?_⟩
      · cases m with
        | zero => exact h
        | succ m => rw [← sf_tail, ← sf_tail]; exact h1 m (by omega)
      · rw [← sf_tail, ← sf_tail]; exact h2

/-- One is less, or stands ahead. -/
def Ahd (κ : Int → Int) (x y : Int) : Prop := κ x < κ y ∨ (κ x = κ y ∧ x < y)
theorem ord_uniq {κ : Int → Int} {n : Nat} {o : List Int} (h1 : o.Pairwise (Ahd κ)) (h2 : ∀ x, x ∈ o ↔ 0 ≤ x ∧ x < n) : o = ordP κ n := by
  refine pw_uniq (R := Ahd κ) (fun x h => by unfold Ahd at h; omega) (fun x y h k => by unfold Ahd at h k; omega) h1 ?_ (fun x => by rw [h2 x, ordP_mem])
  rw [List.pairwise_iff_getElem]
  intro i j hi hj hij
  rw [ordP_length] at hi hj
  have := ordP_rise κ n hij hj
  simp only [List.getD_eq_getElem?_getD, List.getElem?_eq_getElem (show i < (ordP κ n).length by rw [ordP_length]; exact hi), List.getElem?_eq_getElem (show j < (ordP κ n).length by rw [ordP_length]; exact hj), Option.getD_some] at this
  exact this

theorem kyI_nat (l : List Int) (j : Nat) : kyI l (j : Int) = l.getD j 0 := by unfold kyI; rw [Int.toNat_natCast]

/-- The places of the row turned, in order, are the places of the suffixes behind. -/
theorem turn_ord (h : I64s l) (hn : Nn l) : ordP (kyI (turnL l)) (l.length + 1) = nextL l := by
  symm
  apply ord_uniq
  · unfold nextL
    rw [List.pairwise_map]
    refine List.Pairwise.imp_of_mem (fun {i j} hi hj hij => ?_) List.pairwise_lt_range
    have hi := List.mem_range.1 hi
    have hj := List.mem_range.1 hj
    have ai := (allA_at h hn (j := i) (by omega)).2
    have aj := (allA_at h hn (j := j) (by omega)).2
    have hs := plA_up h hn hij (by omega)
    have hne : plA l i ≠ plA l j := fun e => by rw [e] at hs; exact absurd hs lx.irr
    unfold Ahd
    rw [kyI_nat, kyI_nat, turn_nx h hn (by omega), turn_nx h hn (by omega)]
    rcases sl_head.1 hs with hs | ⟨e, hs⟩
    · exact .inl hs
    · refine .inr ⟨e, ?_⟩
      have hp : plA l i < l.length := by
        apply Nat.not_le.1
        intro hle
        rw [getD_out hle] at e
        have := (hn.abv.iff _).1 e.symm
        omega
      have hq : plA l j < l.length := by
        apply Nat.not_le.1
        intro hle
        rw [getD_out (i := plA l j) hle] at e
        have := (hn.abv.iff _).1 e
        omega
      have := (plR_lt h hn (p := plA l i + 1) (q := plA l j + 1) (by omega) (by omega)).2 hs
      unfold nxF
      rw [if_neg (by omega), if_neg (by omega)]
      omega
  · intro x
    unfold nextL
    rw [List.mem_map]
    constructor
    · rintro ⟨j, hj, rfl⟩
      have := nxF_le h hn (j := j) (by have := List.mem_range.1 hj; omega)
      omega
    · rintro ⟨h0, h1⟩
      obtain ⟨k, rfl⟩ : ∃ k : Nat, x = (k : Int) := ⟨x.toNat, by omega⟩
      have hk : k ≤ l.length := by omega
      have ak := (allA_at h hn hk).2
      by_cases e : plA l k = 0
      · refine ⟨0, List.mem_range.2 (by omega), ?_⟩
        rw [nxF_zero, ← e, plR_plA h hn hk]
      · refine ⟨plR l (plA l k - 1), List.mem_range.2 (by have := (plR_ok h hn (p := plA l k - 1) (by omega)).1; omega), ?_⟩
        rw [nxF_R h hn (by omega), show plA l k - 1 + 1 = plA l k by omega, plR_plA h hn hk]

/-- Does -1 stand there once, among numbers from 0 on? -/
def Ended (b : List Int) : Prop := ∃ k, k < b.length ∧ b.getD k 0 = -1 ∧ ∀ j, j < b.length → j ≠ k → 0 ≤ b.getD j 0
theorem turn_ended (h : I64s l) (hn : Nn l) : Ended (turnL l) := by
  obtain ⟨h1, h2⟩ := plR_ok h hn (p := 0) (Nat.zero_le _)
  refine ⟨plR l 0, by rw [turnL_len]; omega, by rw [turn_at h hn h1, h2, if_pos rfl], fun j hj hne => ?_⟩
  rw [turnL_len] at hj
  have ha := (allA_at h hn (j := j) (by omega)).2
  have h0 : plA l j ≠ 0 := fun e => hne (by rw [← e, plR_plA h hn (by omega)])
  rw [turn_at h hn (by omega), if_neg h0]
  exact hn _ (getD_mem (by omega))

/-- From 0 on, step by step. -/
def itS (f : Nat → Nat) : Nat → Nat
  | 0 => 0
  | i + 1 => f (itS f i)
/-- The next place, by a list. -/
def sgL (o : List Int) (j : Nat) : Nat := (o.getD j 0).toNat

theorem it_turn (h : I64s l) (hn : Nn l) : ∀ k, k ≤ l.length → itS (sgL (nextL l)) (k + 1) = plR l k := by
  intro k
  induction k with
  | zero =>
    intro _
    show sgL (nextL l) 0 = _
    unfold sgL
    rw [nextL_at l (Nat.zero_le _), nxF_zero, Int.toNat_natCast]
  | succ k ih =>
    intro hk
    show sgL (nextL l) (itS (sgL (nextL l)) (k + 1)) = _
    rw [ih (by omega)]
    unfold sgL
    rw [nextL_at l (plR_ok h hn (by omega)).1, Int.toNat_natCast, nxF_R h hn (by omega)]
theorem plR_pos (h : I64s l) (hn : Nn l) {p : Nat} (hp : p < l.length) : plR l p ≠ 0 := fun e => by
  have := (plR_ok h hn (Nat.le_of_lt hp)).2
  rw [e, plA_zero] at this
  omega
theorem turn_back (h : I64s l) (hn : Nn l) {p : Nat} (hp : p < l.length) : (turnL l).getD (plR l (p + 1)) 0 = l.getD p 0 := by
  obtain ⟨h1, h2⟩ := plR_ok h hn (p := p + 1) (by omega)
  rw [turn_at h hn h1, h2, if_neg (by omega), Nat.add_sub_cancel]

end Go.Proofs.YtpnjccomngdblaaGreat
end

section
/- Plain facts: a row whose places go round in one ring is a row turned. No program is named here. -/
set_option maxRecDepth 100000
namespace Go.Proofs.YtpnjccomngdblaaGreat

variable {l b o : List Int} {f : Nat → Nat} {n c k : Nat}

/-- Steps among n places, no two to one. -/
structure Ring (f : Nat → Nat) (n : Nat) : Prop where
  lt : ∀ j, j < n → f j < n
  inj : ∀ i j, i < n → j < n → f i = f j → i = j
theorem Ring.itlt (h : Ring f n) (hn : 0 < n) : ∀ i, itS f i < n
  | 0 => hn
  | i + 1 => h.lt _ (h.itlt hn i)
theorem Ring.back (h : Ring f n) (hn : 0 < n) : ∀ i d, itS f (i + d) = itS f i → itS f d = 0 := by
  intro i
  induction i with
  | zero => intro d e; rw [Nat.zero_add] at e; exact e
  | succ i ih =>
    intro d e
    rw [show i + 1 + d = (i + d) + 1 by omega] at e
    exact ih d (h.inj _ _ (h.itlt hn _) (h.itlt hn _) e)
theorem Ring.free (h : Ring f n) (hn : 0 < n) (hk : ∀ i, 0 < i → i ≤ k → itS f i ≠ 0) {i j : Nat} (hij : i < j) (hj : j ≤ k) : itS f i ≠ itS f j := fun e => by
  have := h.back hn i (j - i) (by rw [show i + (j - i) = j by omega]; exact e.symm)
  exact hk (j - i) (by omega) (by omega) this
theorem Ring.few (h : Ring f n) (hn : 0 < n) (hk : ∀ i, 0 < i → i ≤ k → itS f i ≠ 0) : k < n := by
  have h1 := nodup_len (l1 := (List.range (k + 1)).map fun i => (itS f i : Int)) (l2 := plcs n) (by
    rw [List.Nodup, List.pairwise_map]
    refine List.Pairwise.imp_of_mem (fun {i j} hi hj hij => ?_) List.pairwise_lt_range
    have hj := List.mem_range.1 hj
    have := h.free hn hk hij (by omega)
    omega) (by
    intro x hx
    obtain ⟨i, -, rfl⟩ := List.mem_map.1 hx
    have := h.itlt hn i
    exact plcs_mem.2 (by omega))
  rw [List.length_map, List.length_range, plcs_length] at h1
  omega

/-- The ring through 0 has c places. -/
structure Cyc (f : Nat → Nat) (c : Nat) : Prop where
  pos : 0 < c
  zero : itS f c = 0
  no : ∀ i, 0 < i → i < c → itS f i ≠ 0
theorem Cyc.uniq {c' : Nat} (h : Cyc f c) (h' : Cyc f c') : c = c' := by
  rcases Nat.lt_trichotomy c c' with e | e | e
  · exact absurd h.zero (h'.no c h.pos e)
  · exact e
  · exact absurd h'.zero (h.no c' h'.pos e)
theorem turn_cyc (h : I64s l) (hn : Nn l) : Cyc (sgL (nextL l)) (l.length + 1) :=
  ⟨by omega, by rw [it_turn h hn _ (Nat.le_refl _), plR_len h hn], fun i h0 hi => by
    obtain ⟨i, rfl⟩ : ∃ j, i = j + 1 := ⟨i - 1, by omega⟩
    rw [it_turn h hn i (by omega)]
    exact plR_pos h hn (by omega)⟩

theorem ord_ring (κ : Int → Int) (n : Nat) : Ring (sgL (ordP κ n)) n := by
  refine ⟨fun j hj => ?_, fun i j hi hj e => ?_⟩
  · obtain ⟨p, e, hp⟩ := ordP_at κ n hj
    unfold sgL
    rw [e, Int.toNat_natCast]; exact hp
  · obtain ⟨p, e1, hp⟩ := ordP_at κ n hi
    obtain ⟨q, e2, hq⟩ := ordP_at κ n hj
    unfold sgL at e
    rcases Nat.lt_trichotomy i j with k | k | k
    · have := ordP_rise κ n k hj
      rw [e1, e2] at this e
      rw [Int.toNat_natCast, Int.toNat_natCast] at e
      subst e; omega
    · exact k
    · have := ordP_rise κ n k hi
      rw [e1, e2] at this e
      rw [Int.toNat_natCast, Int.toNat_natCast] at e
      subst e; omega

theorem mono_id {g : Nat → Nat} (h1 : ∀ i j, i < j → j < n → g i < g j) (h2 : ∀ i, i < n → g i < n) : ∀ i, i < n → g i = i := by
  have lo : ∀ i, i < n → i ≤ g i := by
    intro i
    induction i with
    | zero => intro _; exact Nat.zero_le _
    | succ i ih => intro hi; have := ih (by omega); have := h1 i (i + 1) (by omega) hi; omega
  have up : ∀ d i, i + d < n → g i + d ≤ g (i + d) := by
    intro d
    induction d with
    | zero => intro i _; exact Nat.le_refl _
    | succ d ih => intro i hi; have := ih i (by omega); have := h1 (i + d) (i + (d + 1)) (by omega) hi; omega
  intro i hi
  have a := lo i hi
  have b := up (n - 1 - i) i (by omega)
  have c := h2 (i + (n - 1 - i)) (by omega)
  omega

/-- What is read round the ring. -/
def backL (b : List Int) (f : Nat → Nat) (m : Nat) : List Int := (List.range m).map fun k => b.getD (itS f (k + 2)) 0
theorem backL_len (b : List Int) (f : Nat → Nat) (m : Nat) : (backL b f m).length = m := by simp [backL]
theorem backL_at (b : List Int) (f : Nat → Nat) {m k : Nat} (hk : k < m) (x : Int) : (backL b f m).getD k x = b.getD (itS f (k + 2)) 0 := by simp [backL, List.getD_eq_getElem?_getD, hk]

/-- The row of a ring through all places is the row turned of what is read. -/
theorem cyc_turn {m : Nat} (hl : b.length = m + 1) (hE : Ended b) (hC : Cyc (sgL (ordP (kyI b) (m + 1))) (m + 1)) : Nn (backL b (sgL (ordP (kyI b) (m + 1))) m) ∧ (I64s b → turnL (backL b (sgL (ordP (kyI b) (m + 1))) m) = b) := by
  have hR := ord_ring (kyI b) (m + 1)
  have hmono : ∀ i j, i < j → j < m + 1 → b.getD (sgL (ordP (kyI b) (m + 1)) i) 0 < b.getD (sgL (ordP (kyI b) (m + 1)) j) 0 ∨ (b.getD (sgL (ordP (kyI b) (m + 1)) i) 0 = b.getD (sgL (ordP (kyI b) (m + 1)) j) 0 ∧ sgL (ordP (kyI b) (m + 1)) i < sgL (ordP (kyI b) (m + 1)) j) := by
    intro i j hij hj
    have := ordP_rise (kyI b) (m + 1) hij hj
    obtain ⟨p, e1, hp⟩ := ordP_at (kyI b) (m + 1) (show i < m + 1 by omega)
    obtain ⟨q, e2, hq⟩ := ordP_at (kyI b) (m + 1) hj
    rw [e1, e2, kyI_nat, kyI_nat] at this
    unfold sgL
    rw [e1, e2, Int.toNat_natCast, Int.toNat_natCast]
    omega
  have hsur : ∀ k, k < m + 1 → ∃ j, j < m + 1 ∧ sgL (ordP (kyI b) (m + 1)) j = k := by
    intro k hk
    have hm : (k : Int) ∈ ordP (kyI b) (m + 1) := ordP_mem.2 (by omega)
    obtain ⟨j, hj, e⟩ := List.getElem_of_mem hm
    rw [ordP_length] at hj
    refine ⟨j, hj, ?_⟩
    unfold sgL
    rw [List.getD_eq_getElem?_getD, List.getElem?_eq_getElem (by rw [ordP_length]; exact hj), Option.getD_some, e, Int.toNat_natCast]
  obtain ⟨k, hk, hk1, hk2⟩ := hE
  rw [hl] at hk hk2
  generalize sgL (ordP (kyI b) (m + 1)) = f at *
  have f0 : f 0 = k := by
    obtain ⟨j, hj, e⟩ := hsur k hk
    by_cases hj0 : j = 0
    · rw [← hj0]; exact e
    · apply Classical.byContradiction
      intro hne
      have h1 := hmono 0 j (by omega) hj
      have h2 := hk2 (f 0) (hR.lt 0 (by omega)) hne
      rw [e, hk1] at h1
      omega
  have hfree : ∀ {i j : Nat}, i < j → j ≤ m → itS f i ≠ itS f j := fun {i j} hij hj => hR.free (by omega) (fun i h0 hi => hC.no i h0 (by omega)) hij hj
  have hnn : Nn (backL b f m) := by
    intro x hx
    unfold backL at hx
    obtain ⟨p, hp, rfl⟩ := List.mem_map.1 hx
    have hp := List.mem_range.1 hp
    refine hk2 _ (hR.itlt (by omega) _) fun e => ?_
    rw [← f0] at e
    have e1 : itS f 1 = f 0 := rfl
    by_cases hpm : p + 2 ≤ m
    · exact hfree (i := 1) (j := p + 2) (by omega) hpm (by rw [e1, e])
    · have hz := hC.zero
      rw [show m + 1 = p + 2 by omega, e, ← e1] at hz
      exact hC.no 1 (by omega) (by omega) hz
  refine ⟨hnn, fun h64 => ?_⟩
  have hll := backL_len b f m
  have hF : ∀ p, p ≤ m → (backL b f m).getD p (-1) = b.getD (f (itS f (p + 1))) 0 := by
    intro p hp
    by_cases e : p < m
    · rw [backL_at b f e]; rfl
    · rw [getD_out (by omega), show p + 1 = m + 1 by omega, hC.zero, f0, hk1]
  have hIb : I64s (backL b f m) := by
    intro x hx
    unfold backL at hx
    obtain ⟨p, hp, rfl⟩ := List.mem_map.1 hx
    exact h64 _ (getD_mem (by rw [hl]; exact hR.itlt (by omega) _))
  generalize hgl : backL b f m = l at *
  have hinj : ∀ p q, p ≤ m → q ≤ m → itS f (p + 1) = itS f (q + 1) → p = q := by
    have key : ∀ p q, p < q → q ≤ m → itS f (p + 1) ≠ itS f (q + 1) := by
      intro p q hpq hq e
      by_cases hqm : q < m
      · exact hfree (i := p + 1) (j := q + 1) (by omega) (by omega) e
      · rw [show q + 1 = m + 1 by omega, hC.zero] at e
        exact hC.no (p + 1) (by omega) (by omega) e
    intro p q hp hq e
    rcases Nat.lt_trichotomy p q with k | k | k
    · exact absurd e (key p q k hq)
    · exact k
    · exact absurd e.symm (key q p k hp)
  have hlt : ∀ k p q, p ≤ m → q ≤ m → (∀ j, j < k → sf (-1) l p j = sf (-1) l q j) → sf (-1) l p k < sf (-1) l q k → itS f (p + 1) < itS f (q + 1) := by
    intro k
    induction k with
    | zero =>
      intro p q hp hq _ h2
      unfold sf at h2
      rw [Nat.add_zero, Nat.add_zero, hF p hp, hF q hq] at h2
      rcases Nat.lt_trichotomy (itS f (p + 1)) (itS f (q + 1)) with k | k | k
      · exact k
      · rw [k] at h2; omega
      · have := hmono _ _ k (hR.itlt (by omega) _); omega
    | succ k ih =>
      intro p q hp hq h1 h2
      have e0 := h1 0 (by omega)
      unfold sf at e0
      rw [Nat.add_zero, Nat.add_zero] at e0
      have hpm : p < m := by
        apply Nat.not_le.1
        intro hle
        rw [getD_out (i := p) (by omega)] at e0
        have := (hnn.abv.iff _).1 e0.symm
        rw [show p = q by omega] at h2
        omega
      have hqm : q < m := by
        apply Nat.not_le.1
        intro hle
        rw [getD_out (i := q) (by omega)] at e0
        have := (hnn.abv.iff _).1 e0
        omega
      have h3 := ih (p + 1) (q + 1) (by omega) (by omega) (fun j hj => by rw [sf_tail, sf_tail]; exact h1 (j + 1) (by omega)) (by rw [sf_tail, sf_tail]; exact h2)
      rw [hF p hp, hF q hq] at e0
      have h3 : f (itS f (p + 1)) < f (itS f (q + 1)) := h3
      rcases Nat.lt_trichotomy (itS f (p + 1)) (itS f (q + 1)) with k | k | k
      · exact k
      · rw [k] at h3; omega
      · have := hmono _ _ k (hR.itlt (by omega) _); omega
  have hid := mono_id (n := m + 1) (g := fun j => itS f (plA l j + 1)) (fun i j hij hj => by
    obtain ⟨k, h1, h2⟩ := plA_up hIb hnn hij (by omega)
    exact hlt k _ _ (by have := (allA_at hIb hnn (j := i) (by omega)).2; omega) (by have := (allA_at hIb hnn (j := j) (by omega)).2; omega) h1 h2) (fun i _ => hR.itlt (by omega) _)
  apply List.ext_getElem (by rw [turnL_len, hll, hl])
  intro j hj hj'
  rw [turnL_len] at hj
  have ht := turn_at hIb hnn (j := j) (by omega)
  have hj3 : itS f (plA l j + 1) = j := hid j (by omega)
  have ha := (allA_at hIb hnn (j := j) (by omega)).2
  have e1 : (turnL l).getD j 0 = (turnL l)[j]'(by rw [turnL_len]; exact hj) := by simp [List.getD_eq_getElem?_getD, turnL_len, hj]
  have e2 : b.getD j 0 = b[j] := by simp [List.getD_eq_getElem?_getD, hj']
  rw [← e1, ← e2, ht]
  by_cases e : plA l j = 0
  · rw [if_pos e]
    rw [e] at hj3
    have : f 0 = j := hj3
    rw [← this, f0, hk1]
  · rw [if_neg e]
    conv => rhs; rw [← hj3]
    have := backL_at b f (m := m) (k := plA l j - 1) (by omega) 0
    rw [hgl] at this
    rw [this, show plA l j - 1 + 2 = plA l j + 1 by omega]

/-- Is it the row turned of some row? -/
def Tb (b : List Int) : Prop := ∃ l, Nn l ∧ I64s l ∧ b = turnL l
theorem tb_iff (h64 : I64s b) : Tb b ↔ Ended b ∧ Cyc (sgL (ordP (kyI b) b.length)) b.length := by
  constructor
  · rintro ⟨l, h1, h2, rfl⟩
    refine ⟨turn_ended h2 h1, ?_⟩
    rw [turnL_len, turn_ord h2 h1]
    exact turn_cyc h2 h1
  · rintro ⟨h1, h2⟩
    obtain ⟨m, hm⟩ : ∃ m, b.length = m + 1 := ⟨b.length - 1, by obtain ⟨k, hk, -⟩ := h1; omega⟩
    rw [hm] at h2
    obtain ⟨h3, h4⟩ := cyc_turn hm h1 h2
    refine ⟨_, h3, fun x hx => ?_, (h4 h64).symm⟩
    unfold backL at hx
    obtain ⟨p, hp, rfl⟩ := List.mem_map.1 hx
    exact h64 _ (getD_mem (by rw [hm]; exact (ord_ring _ _).itlt (by omega) _))
theorem turn_inj {l l' : List Int} (h : I64s l) (hn : Nn l) (h' : I64s l') (hn' : Nn l') (e : turnL l = turnL l') : l = l' := by
  have hl : l.length = l'.length := by
    have := congrArg List.length e
    rw [turnL_len, turnL_len] at this
    omega
  have hx : nextL l = nextL l' := by rw [← turn_ord h hn, ← turn_ord h' hn', e, hl]
  apply List.ext_getElem hl
  intro p hp hp'
  have h1 := turn_back h hn hp
  have h2 := turn_back h' hn' hp'
  rw [← it_turn h hn (p + 1) (by omega)] at h1
  rw [← it_turn h' hn' (p + 1) (by omega), ← hx, ← e, h1] at h2
  simpa [List.getD_eq_getElem?_getD, hp, hp'] using h2

end Go.Proofs.YtpnjccomngdblaaGreat
end

section
/- The contracts of ahead, few, alike, below; Turn and the document's Turn. -/
set_option maxRecDepth 100000
namespace Go.Proofs.YtpnjccomngdblaaGreat
open Go.RowKit
open M
attribute [local go_sem ↓] Go.wp_at_zero Go.wp_at_succ

theorem tahead_any (A : Option Addr) (n c p : Nat) (l : List Int) (w : World) (hA : NumsAt .i64 w A l) (hl : l.length = n) (hp : p ≤ n) (hn : n ≤ 1000000) :
    Calls Tryz.prog 66 #[.slice A n c, .int .i64 (p : Int)] w fun e w' => e = .returned (.int .i64 (ahdI l (p : Int))) ∧ w' = w := by
  by_cases h0 : p = 0
  · have q1 : ((p : Int) == 0) = true := by simp; omega
    have he : ahdI l (p : Int) = -1 := by unfold ahdI; rw [if_pos (by omega)]
    rw [he]
    clear hA hl he
    go_enter Tryz.func66, Tryz.ntmps66
    go_wp2
    go_ret
    exact ⟨rfl, rfl⟩
  · obtain ⟨q, rfl⟩ : ∃ q, p = q + 1 := ⟨p - 1, by omega⟩
    have he : ahdI l ((q + 1 : Nat) : Int) = l.getD q 0 := by unfold ahdI; rw [if_neg (by omega), Int.toNat_natCast, Nat.add_sub_cancel]
    rw [he]
    obtain ⟨bb, off, hAe, -, c1⟩ := num_at hA (i := q) (by omega)
    generalize l.getD q 0 = x at *
    subst hAe
    clear hA hl he
    have q1 : (((q + 1 : Nat) : Int) == 0) = false := by simp; omega
    have q2 : IntKind.i64.wrap (((q + 1 : Nat) : Int) - 1) = (q : Int) := by
      rw [show (((q + 1 : Nat) : Int) - 1) = (q : Int) by omega]
      exact IntWalk.i64_in _ (by omega)
    have q3 : (0 : Int) ≤ (q : Int) := by omega
    have q4 : (q : Int) < (n : Int) := by omega
    obtain ⟨s, hs⟩ : ∃ s : Int, ((q + 1 : Nat) : Int) = s := ⟨_, rfl⟩
    rw [hs] at q1 q2 ⊢
    clear hs
    go_enter Tryz.func66, Tryz.ntmps66
    go_wp2
    go_ret
    exact ⟨rfl, rfl⟩

/-- Numbers made alike by their rests. -/
def cutI (s x : Int) : Int := (x.tmod s + s).tmod s
theorem cutI_in (s x : Int) (hs : 1 ≤ s) : 0 ≤ cutI s x ∧ cutI s x < s := by
  unfold cutI
  have t2 := Int.lt_tmod_of_pos x (b := s) (by omega)
  rw [Int.tmod_eq_emod_of_nonneg (by omega)]
  exact ⟨Int.emod_nonneg _ (by omega), Int.emod_lt_of_pos _ (by omega)⟩
def cutL (s : Int) (xs : List Int) (k : Nat) : List Int := (xs.take k).map (cutI s)
theorem cutL_succ (s : Int) (xs : List Int) (k : Nat) (h : k < xs.length) : cutL s xs (k + 1) = cutL s xs k ++ [cutI s (xs.getD k 0)] := by
  unfold cutL
  rw [takeI_snoc xs k h, List.map_append]; rfl
theorem cutL_len (s : Int) (xs : List Int) (k : Nat) (h : k ≤ xs.length) : (cutL s xs k).length = k := by simp [cutL]; omega
theorem cutL_in (s : Int) (xs : List Int) (k : Nat) (hs : 1 ≤ s) : ∀ x ∈ cutL s xs k, 0 ≤ x ∧ x < s := by
  intro x hx
  unfold cutL at hx
  obtain ⟨y, -, rfl⟩ := List.mem_map.1 hx
  exact cutI_in s y hs
theorem and3 (x : Int) : bits .and .i64 x 3 = x % 4 := and_mask x 2 (by omega)
theorem and7 (x : Int) : bits .and .i64 x 7 = x % 8 := and_mask x 3 (by omega)
/-- Of how many kinds numbers are. -/
def kindN (x : Int) : Nat := (1 + x % 4).toNat
theorem kindN_in (x : Int) : 1 ≤ kindN x ∧ kindN x ≤ 4 ∧ (kindN x : Int) = 1 + x % 4 := by unfold kindN; omega
def kind8 (x : Int) : Nat := (1 + x % 8).toNat
theorem kind8_in (x : Int) : 1 ≤ kind8 x ∧ kind8 x ≤ 8 ∧ (kind8 x : Int) = 1 + x % 8 := by unfold kind8; omega

/-- Is one below 0? -/
def negB (l : List Int) : Bool := l.any fun x => decide (x < 0)
theorem negB_iff (l : List Int) : negB l = false ↔ Nn l := by
  unfold negB Nn
  rw [List.any_eq_false]
  constructor
  · intro h x hx; have := h x hx; simpa using this
  · intro h x hx; have := h x hx; simpa using this
theorem negB_of {l : List Int} {i : Nat} (hi : i < l.length) (h : l.getD i 0 < 0) : negB l = true := by
  unfold negB
  rw [List.any_eq_true]
  exact ⟨_, getD_mem hi, by simpa using h⟩
theorem negB_no {l : List Int} (h : ∀ j, j < l.length → 0 ≤ l.getD j 0) : negB l = false := by
  rw [negB_iff]
  intro x hx
  obtain ⟨i, hi, e⟩ := List.getElem_of_mem hx
  have := h i hi
  rw [List.getD_eq_getElem?_getD, List.getElem?_eq_getElem hi, Option.getD_some, e] at this
  exact this

/-! ## A row that grows beside another one -/
/-- A row of the call's own beside a source in another block. -/
structure OS (w : World) (v : Value) (l : List Int) (A : Option Addr) (src : List Int) (u : World) : Prop where
  own : OwnI w v l u
  nums : NumsAt .i64 u A src
  dj : src = [] ∨ ∀ b o, A = some ⟨b, o, none⟩ → v.ownBlock ≠ some b
theorem OS.kept {w u u' : World} {v : Value} {l : List Int} {A : Option Addr} {src : List Int} (h : OS w v l A src u) (hb : Below u.heap.size u u') : OS w v l A src u' :=
  ⟨h.own.kept hb, h.nums.kept hb, h.dj⟩
theorem OS.alloc {w u : World} {v : Value} {l : List Int} {A : Option Addr} {src : List Int} (h : OS w v l A src u) (o : Obj) : OS w v l A src (u.alloc o) := h.kept (al _ _)
theorem OS.app {w u u' : World} {v v' : Value} {l l' : List Int} {A : Option Addr} {src : List Int} (h : OS w v l A src u) (hown : u'.ownsRow w.heap.size 3 1 v' l'.length (l'.map (Value.int .i64))) (hg : u.grownBy u' v.ownBlock) (hat : v'.ownBlock = v.ownBlock ∨ v'.ownBlock = some u.heap.size) : OS w v' l' A src u' := by
  have hk : Kp (fun k => v.ownBlock = some k) u u' := (Kp.refl _ u).grown hg (fun k hk _ => hk)
  refine ⟨h.own.app hown hg, ?_, ?_⟩
  · rcases h.dj with e | hd
    · rw [e]; exact .inl rfl
    · exact h.nums.kp hk (fun b o e ev => hd b o e ev)
  · rcases h.dj with e | hd
    · exact .inl e
    · by_cases e : src = []
      · exact .inl e
      · refine .inr fun b o hA ev => ?_
        rcases hat with e1 | e1
        · rw [e1] at ev; exact hd b o hA ev
        · rw [e1] at ev
          rcases h.nums with h0 | ⟨b', o', e2, hlt, -⟩
          · exact e h0
          · rw [hA] at e2
            simp only [Option.some.injEq, Addr.mk.injEq, and_true] at e2 ev
            obtain ⟨rfl, rfl⟩ := e2
            omega
/-- A source that is newer than the row. -/
theorem OS.newer {w u u' : World} {v : Value} {l : List Int} {A : Option Addr} {src : List Int} (h : OwnI w v l u) (hb : Below u.heap.size u u') (hs : NumsAt .i64 u' A src) (hf : Frs u.heap.size A) : OS w v l A src u' :=
  ⟨h.kept hb, hs, .inr fun b o e ev => by have h1 := hf _ e; have h2 := (h.1.lt b ev).2; simp only at h1; omega⟩
/-- A row that is newer than the source. -/
theorem OS.elder {w u : World} {v : Value} {l : List Int} {A : Option Addr} {src : List Int} (h : OwnI w v l u) (hs : NumsAt .i64 w A src) : OS w v l A src u := by
  refine ⟨h, hs.kept h.2, ?_⟩
  rcases hs with e | ⟨b', o', e2, hlt, -⟩
  · exact .inl e
  · refine .inr fun b o e ev => ?_
    rw [e] at e2
    simp only [Option.some.injEq, Addr.mk.injEq, and_true] at e2
    obtain ⟨rfl, rfl⟩ := e2
    have := (h.1.lt b ev).1
    omega
theorem OwnI.frs {w u : World} {A : Option Addr} {n c : Nat} {l : List Int} (h : OwnI w (.slice A n c) l u) : Frs w.heap.size A := fun a ha => (h.1.lt a.block (by rw [ha]; rfl)).1

/-! ## Turn -/
def tkT (l : List Int) (i : Nat) : List Int := (turnL l).take (i + 1)
theorem tkT_zero (l : List Int) : tkT l 0 = [ahdI l (l.length : Int)] := by simp [tkT, turnL, allA]
theorem tkT_succ (l : List Int) (i : Nat) (h : i < l.length) : tkT l (i + 1) = tkT l i ++ [ahdI l ((sufA l).getD i 0)] := by
  unfold tkT
  rw [takeI_snoc (turnL l) (i + 1) (by rw [turnL_len]; omega)]
  congr 2
  unfold turnL allA
  rw [List.map_cons, List.getD_cons_succ]
  have hi : i < (sufA l).length := by rw [sufA_len]; exact h
  simp [List.getD_eq_getElem?_getD, hi]
theorem tkT_len (l : List Int) (i : Nat) (h : i ≤ l.length) : (tkT l i).length = i + 1 := by simp [tkT, turnL_len]; omega
theorem tkT_all (l : List Int) : tkT l l.length = turnL l := by
  unfold tkT
  exact List.take_of_length_le (by rw [turnL_len]; exact Nat.le_refl _)

set_option maxHeartbeats 4000000 in
theorem turn_any (A : Option Addr) (n c : Nat) (l : List Int) (w : World) (hA : NumsAt .i64 w A l) (hl : l.length = n) (hn : n ≤ 100000) (h64 : I64s l) (hnn : Nn l) :
    Calls Tryz.prog 53 #[.slice A n c] w fun e u => ∃ v, e = .returned (.tuple #[v, .int .i64 0]) ∧ OwnI w v (turnL l) u := by
  have har := fun u (hb : Below w.heap.size w u) => array_any A n c l u (hA.kept hb) hl (by omega) h64
  have hah := fun u (hb : Below w.heap.size w u) p (hp : p ≤ n) => tahead_any A n c p l u (hA.kept hb) hl hp (by omega)
  have hpl := fun i (hi : i < n) => (sufA_ok h64).pl (i := i) (by omega)
  have hcell : ∀ i, i < n → ∃ bb off, A = some ⟨bb, off, none⟩ ∧ w.cell? ⟨bb, off + i, none⟩ = some (.int .i64 (l.getD i 0)) := fun i hi => by
    obtain ⟨bb, off, e, -, c1⟩ := num_at hA (i := i) (by omega)
    exact ⟨bb, off, e, c1⟩
  have hge : ∀ i, i < n → ¬ l.getD i 0 < 0 := fun i hi => by have := hnn _ (getD_mem (b := 0) (show i < l.length by omega)); omega
  have HX := Lib.hid (And.intro har (And.intro hah (And.intro hpl (And.intro hl (And.intro hcell hge)))))
  clear har hah hpl hl hcell hge hA h64 hnn
  go_enter Tryz.func53, Tryz.ntmps53
  go_wp2
  go_loopw [5, 11] (fun _ v11 wr => ∃ i : Nat, i ≤ n ∧ v11 = .int .i64 (i : Int) ∧ wr = w) (fun _ v11 _ => n - (intOf v11).toNat)
  case atStart => exact ⟨0, Nat.zero_le _, rfl, rfl⟩
  case round =>
    obtain ⟨i, hin, rfl, rfl⟩ := hrel
    by_cases hlt : i < n
    · obtain ⟨bb, off, hAe, ck⟩ := HX.out.2.2.2.2.1 i hlt
      have hge := HX.out.2.2.2.2.2 i hlt
      subst hAe
      generalize l.getD i 0 = x at *
      have q1 : (i : Int) < (n : Int) := by omega
      have q2 : (0 : Int) ≤ (i : Int) := by omega
      go_wp2
      go_roundw
      case rel => exact ⟨i + 1, by omega, by go_num, by first | rfl | trivial⟩
      case measure => simp [intOf]; omega
    · obtain rfl : i = n := by omega
      obtain ⟨n, rfl⟩ : ∃ n, n = i := ⟨_, rfl⟩
      obtain ⟨i0, hi, hz0, hz1, hz2⟩ := info_parts info3
      have q1 : ¬ (n : Int) < (n : Int) := by omega
      have q2 : IntKind.i64.wrap ((n : Int) + 1) = (n : Int) + 1 := IntWalk.i64_in _ (by omega)
      obtain ⟨w, rfl⟩ : ∃ w, w = wr := ⟨_, rfl⟩
      go_wp2_with (first | (at_make; refine wpList_make_own _ rfl _ _ 38 rfl w.heap.size 3 i0 (.int .i64 0) 1 Tryz.underlying38 hi hz0 hz1 _ _ _ (n + 1) rfl rfl (by omega) ?b2 ?b3 (Nat.le_refl _) ?_))
      case b2 => first | omega | (rw [hz2]; omega)
      case b3 => unfold maxLen; omega
      intro w1 hown hgrow
      have hO : OwnI w (.slice (some ⟨w.heap.size, 0, none⟩) 0 (n + 1)) [] w1 := ⟨hown, below_grown hgrow⟩
      have HO := Lib.hid hO
      have hsz := hO.2.size
      clear hown hgrow hO hi hz0 hz1 hz2 q1 q2
      obtain ⟨D, hDe⟩ : ∃ D, D = w.heap.size := ⟨_, rfl⟩
      rw [← hDe] at HO
      rw [← hDe]
      clear hDe
      have hca := HX.out.2.1 _ HO.out.2 n (Nat.le_refl _)
      have HCA := Lib.hid hca
      clear hca
      go_wp2_with fail
      (with_reducible refine HCA.out.mono ?_)
      rintro e u2 ⟨rfl, rfl⟩
      have h0 := tkT_zero l
      rw [HX.out.2.2.2.1] at h0
      obtain ⟨z, hz⟩ : ∃ z, ahdI l (n : Int) = z := ⟨_, rfl⟩
      rw [hz] at h0
      rw [hz]
      have H0 := Lib.hid h0
      clear h0 hz
      go_wp2_with (first
        | (at_builtin
           refine wpList_append_nums rfl (.tmp 22) (.tmp 27) rfl w.heap.size _ _ _ rfl (HO.out.alloc _).1 (some ⟨_, 0, none⟩) 1 1 [z] rfl rfl ?c1 (by simp) ?c2 ?c3 ?_))
      case c1 => exact nums_one _ _
      case c2 => simp
      case c3 => first | omega | (simp; omega)
      intro v6 w5 hown hgrow _
      have hI5 := (HO.out.alloc _).app (l' := [z]) (by simpa using hown) hgrow
      have HI := Lib.hid hI5
      clear hown hgrow hI5 HO hsz
      have hca := HX.out.1 _ HI.out.2
      have HCA := Lib.hid hca
      clear hca
      go_wp2_with fail
      (with_reducible refine HCA.out.mono ?_)
      rintro e u6 ⟨A', ca, rfl, h1, h2, h3, h4⟩
      have hOS := OS.newer HI.out h3 h1 h4
      rw [← H0.out] at hOS
      have HOS := Lib.hid hOS
      clear h1 h2 h3 h4 hOS HI
      go_wp2
      go_loopw [6, 8, 32] (fun v6 _ v32 wr => ∃ i : Nat, i ≤ n ∧ v32 = .int .i64 (i : Int) ∧ OS w v6 (tkT l i) A' (sufA l) wr) (fun _ _ v32 _ => n - (intOf v32).toNat)
      case atStart => exact ⟨0, Nat.zero_le _, rfl, HOS.out⟩
      case round =>
        obtain ⟨i, hin, rfl, hI⟩ := hrel
        by_cases hlt : i < n
        · obtain ⟨bb, off, hAe, -, ck⟩ := num_at hI.nums (i := i) (by rw [sufA_len, HX.out.2.2.2.1]; exact hlt)
          obtain ⟨p, hp, hpn⟩ := HX.out.2.2.1 i hlt
          rw [hp] at ck
          have hsu := tkT_succ l i (by rw [HX.out.2.2.2.1]; exact hlt)
          have hml := tkT_len l i (by rw [HX.out.2.2.2.1]; omega)
          rw [hp] at hsu
          have hca := HX.out.2.1 wr hI.own.2 p (by rw [HX.out.2.2.2.1] at hpn; omega)
          obtain ⟨z, hz⟩ : ∃ z, ahdI l (p : Int) = z := ⟨_, rfl⟩
          rw [hz] at hsu hca
          have hsz := hI.own.2.size
          have HM := Lib.hid (And.intro hI (And.intro hsu (And.intro hml hca)))
          subst hAe
          clear hI hsu hml hp hpn hz hca
          have q1 : (i : Int) < (n : Int) := by omega
          have q2 : (0 : Int) ≤ (i : Int) := by omega
          go_wp2_with fail
          (with_reducible refine HM.out.2.2.2.mono ?_)
          rintro e u7 ⟨rfl, rfl⟩
          go_wp2_with (first
            | (at_builtin
               refine wpList_append_nums rfl (.tmp 36) (.tmp 40) rfl w.heap.size _ _ _ rfl (HM.out.1.alloc _).own.1 (some ⟨_, 0, none⟩) 1 1 [z] rfl rfl ?c1 (by simp) ?c2 ?c3 ?_))
          case c1 => exact nums_one _ _
          case c2 => rw [HM.out.2.2.1]; omega
          case c3 => first | omega | (simp; omega)
          intro v' w8 hown hgrow hat
          have hI8 := (HM.out.1.alloc _).app (l' := tkT l i ++ [z]) (by simpa using hown) hgrow (by simpa using hat)
          have HX8 := Lib.hid hI8
          clear hown hgrow hI8 hat
          go_wp2
          go_roundw
          case rel => exact ⟨i + 1, by omega, by go_num, by rw [HM.out.2.1]; exact HX8.out⟩
          case measure => simp [intOf]; omega
        · obtain rfl : i = n := by omega
          have HF := Lib.hid hI
          clear hI
          have q1 : ¬ (i : Int) < (i : Int) := by omega
          go_wp2
          go_ret2
          refine ⟨_, rfl, ?_⟩
          have := HF.out.own
          rw [← HX.out.2.2.2.1, tkT_all] at this
          exact this

theorem turn_no (A : Option Addr) (n c : Nat) (l : List Int) (w : World) (hA : NumsAt .i64 w A l) (hl : l.length = n) (hn : n ≤ 100000) (hnn : negB l = true) :
    Calls Tryz.prog 53 #[.slice A n c] w fun e u => e = .returned (.tuple #[.slice none 0 0, .int .i64 1]) ∧ u = w := by
  have HX := Lib.hid (And.intro hA (And.intro hl hnn))
  clear hA hl hnn
  go_enter Tryz.func53, Tryz.ntmps53
  go_wp2
  go_loopw [5, 11] (fun _ v11 wr => ∃ i : Nat, i ≤ n ∧ v11 = .int .i64 (i : Int) ∧ wr = w ∧ ∀ j, j < i → 0 ≤ l.getD j 0) (fun _ v11 _ => n - (intOf v11).toNat)
  case atStart => exact ⟨0, Nat.zero_le _, rfl, rfl, fun j hj => by omega⟩
  case round =>
    obtain ⟨i, hin, rfl, rfl, hge⟩ := hrel
    by_cases hlt : i < n
    · obtain ⟨bb, off, hAe, -, ck⟩ := num_at HX.out.1 (i := i) (by rw [HX.out.2.1]; exact hlt)
      obtain ⟨x, hx⟩ : ∃ x, l.getD i 0 = x := ⟨_, rfl⟩
      rw [hx] at ck
      have HG := Lib.hid (And.intro hge hx)
      subst hAe
      clear hge hx
      have q1 : (i : Int) < (n : Int) := by omega
      have q2 : (0 : Int) ≤ (i : Int) := by omega
      by_cases hneg : x < 0
      · go_wp2
        go_ret2
        exact ⟨rfl, rfl⟩
      · go_wp2
        go_roundw
        case rel =>
          refine ⟨i + 1, by omega, by go_num, by first | rfl | trivial, fun j hj => ?_⟩
          by_cases e : j = i
          · rw [e, HG.out.2]; omega
          · exact HG.out.1 j (by omega)
        case measure => simp [intOf]; omega
    · obtain rfl : i = n := by omega
      have hr := negB_no (l := l) (fun j hj => hge j (by rw [HX.out.2.1] at hj; exact hj))
      rw [HX.out.2.2] at hr
      cases hr

end Go.Proofs.YtpnjccomngdblaaGreat
end

section
/- The contract of the document's Turn. -/
set_option maxRecDepth 100000
namespace Go.Proofs.YtpnjccomngdblaaGreat
open Go.RowKit
open M
attribute [local go_sem ↓] Go.wp_at_zero Go.wp_at_succ

/-- A list written out is a row of the call's own. -/
theorem OwnI.lit {w u : World} (hb : Below w.heap.size w u) (xs : List Int) (hx : xs.length ≤ 1000) : OwnI w (.slice (some ⟨u.heap.size, 0, none⟩) xs.length xs.length) xs (u.alloc (.cells ((xs.map (Value.int .i64)).toArray) 3)) := by
  refine ⟨?_, hb.alloc hb.size _⟩
  have := World.ownsRow_lit (base := w.heap.size) (e := 3) (size := 1) u ((xs.map (Value.int .i64)).toArray) xs.length hb.size (by unfold maxLen; omega) (by simp)
  simpa using this

end Go.Proofs.YtpnjccomngdblaaGreat
end

section
/- The contracts of ended, of places and its closure. -/
set_option maxRecDepth 100000
namespace Go.Proofs.YtpnjccomngdblaaGreat
open Go.RowKit
open M
attribute [local go_sem ↓] Go.wp_at_zero Go.wp_at_succ

/-! ## ended -/
/-- What is counted of -1 among the first i. -/
def EndI (b : List Int) (i c : Nat) : Prop :=
  (c = 0 ∧ ∀ j, j < i → 0 ≤ b.getD j 0) ∨ (c = 1 ∧ ∃ k, k < i ∧ b.getD k 0 = -1 ∧ ∀ j, j < i → j ≠ k → 0 ≤ b.getD j 0) ∨ (2 ≤ c ∧ c ≤ i ∧ ∃ k k', k < k' ∧ k' < i ∧ b.getD k 0 = -1 ∧ b.getD k' 0 = -1)
theorem EndI.start (b : List Int) : EndI b 0 0 := .inl ⟨rfl, fun j hj => by omega⟩
theorem EndI.le {b : List Int} {i c : Nat} (h : EndI b i c) : c ≤ i := by
  rcases h with ⟨h, -⟩ | ⟨h, k, hk, -⟩ | ⟨-, h, -⟩ <;> omega
theorem EndI.same {b : List Int} {i c : Nat} (h : EndI b i c) (hx : 0 ≤ b.getD i 0) : EndI b (i + 1) c := by
  rcases h with ⟨h, h1⟩ | ⟨h, k, hk, h1, h2⟩ | ⟨h, h0, k, k', h1, h2, h3, h4⟩
  · refine .inl ⟨h, fun j hj => ?_⟩
    by_cases e : j = i
    · rw [e]; exact hx
    · exact h1 j (by omega)
  · refine .inr (.inl ⟨h, k, by omega, h1, fun j hj hne => ?_⟩)
    by_cases e : j = i
    · rw [e]; exact hx
    · exact h2 j (by omega) hne
  · exact .inr (.inr ⟨h, by omega, k, k', h1, by omega, h3, h4⟩)
theorem EndI.more {b : List Int} {i c : Nat} (h : EndI b i c) (hx : b.getD i 0 = -1) : EndI b (i + 1) (c + 1) := by
  rcases h with ⟨h, h1⟩ | ⟨h, k, hk, h1, h2⟩ | ⟨h, h0, k, k', h1, h2, h3, h4⟩
  · exact .inr (.inl ⟨by omega, i, by omega, hx, fun j hj hne => h1 j (by omega)⟩)
  · exact .inr (.inr ⟨by omega, by omega, k, i, hk, by omega, h1, hx⟩)
  · exact .inr (.inr ⟨by omega, by omega, k, k', h1, by omega, h3, h4⟩)
theorem EndI.iff {b : List Int} {c : Nat} (h : EndI b b.length c) : (c = 1 ↔ Ended b) := by
  constructor
  · intro e
    rcases h with ⟨h, h1⟩ | ⟨h, k, hk, h1, h2⟩ | ⟨h, h0, k, k', h1, h2, h3, h4⟩
    · omega
    · exact ⟨k, hk, h1, h2⟩
    · omega
  · rintro ⟨q, hq, e, hne⟩
    rcases h with ⟨h, h1⟩ | ⟨h, k, hk, h1, h2⟩ | ⟨h, h0, k, k', h1, h2, h3, h4⟩
    · have := h1 q hq; omega
    · exact h
    · by_cases e1 : k = q
      · have := hne k' h2 (by omega); omega
      · have := hne k (by omega) e1; omega
theorem ended_low {b : List Int} {i : Nat} (hi : i < b.length) (h : b.getD i 0 < -1) : ¬ Ended b := by
  rintro ⟨q, hq, e, hne⟩
  by_cases e1 : i = q
  · rw [e1] at h; omega
  · have := hne i hi e1; omega

set_option maxHeartbeats 2000000 in
theorem ended_any (A : Option Addr) (n c : Nat) (b : List Int) (w : World) (hA : NumsAt .i64 w A b) (hl : b.length = n) (hn : n ≤ 1000000) (r : Bool) (hr : r = true ↔ Ended b) :
    Calls Tryz.prog 101 #[.slice A n c] w fun e w' => e = .returned (.bool r) ∧ w' = w := by
  have HX := Lib.hid (And.intro hA hl)
  have HR := Lib.hid hr
  clear hA hl hr
  go_enter Tryz.func101, Tryz.ntmps101
  go_wp2
  go_loopw [3, 5, 8] (fun v3 _ v8 wr => ∃ i c : Nat, i ≤ n ∧ v8 = .int .i64 (i : Int) ∧ v3 = .int .i64 (c : Int) ∧ wr = w ∧ EndI b i c) (fun _ _ v8 _ => n - (intOf v8).toNat)
  case atStart => exact ⟨0, 0, Nat.zero_le _, rfl, rfl, rfl, EndI.start b⟩
  case round =>
    obtain ⟨i, c, hin, rfl, rfl, rfl, hE⟩ := hrel
    have hci := hE.le
    by_cases hlt : i < n
    · obtain ⟨bb, off, hAe, -, ck⟩ := num_at HX.out.1 (i := i) (by rw [HX.out.2]; exact hlt)
      obtain ⟨x, hx⟩ : ∃ x, b.getD i 0 = x := ⟨_, rfl⟩
      rw [hx] at ck
      have HG := Lib.hid (And.intro hE hx)
      subst hAe
      clear hE hx
      have q1 : (i : Int) < (n : Int) := by omega
      have q2 : (0 : Int) ≤ (i : Int) := by omega
      by_cases h1 : x < -1
      · have hno := ended_low (b := b) (i := i) (by rw [HX.out.2]; exact hlt) (by rw [HG.out.2]; exact h1)
        have hrf : r = false := by rw [← Bool.not_eq_true, HR.out]; exact hno
        clear hno
        subst hrf
        go_wp2
        go_ret
        exact ⟨rfl, by first | rfl | trivial⟩
      · by_cases h2 : x = -1
        · have he := HG.out.1.more (by rw [HG.out.2]; exact h2)
          have HE := Lib.hid he
          subst h2
          clear he
          have q3 : IntKind.i64.wrap ((c : Int) + 1) = ((c + 1 : Nat) : Int) := by rw [Int.natCast_add]; exact IntWalk.i64_in _ (by omega)
          go_wp2
          go_roundw
          case rel => exact ⟨i + 1, c + 1, by omega, by go_num, by first | rfl | trivial | go_num, by first | rfl | trivial, HE.out⟩
          case measure => simp [intOf]; omega
        · have he := HG.out.1.same (by rw [HG.out.2]; omega)
          have HE := Lib.hid he
          have q3 : (x == -1) = false := by simpa using h2
          clear he
          go_wp2
          go_roundw
          case rel => exact ⟨i + 1, c, by omega, by go_num, by first | rfl | trivial, by first | rfl | trivial, HE.out⟩
          case measure => simp [intOf]; omega
    · obtain rfl : i = n := by omega
      rw [← HX.out.2] at hE
      have hif := hE.iff
      have HF := Lib.hid hif
      have q1 : ¬ (i : Int) < (i : Int) := by omega
      clear hE hif
      by_cases e : c = 1
      · have hrt : r = true := HR.out.2 (HF.out.1 e)
        subst e
        subst hrt
        go_wp2
        go_ret
        exact ⟨rfl, by first | rfl | trivial⟩
      · have q2 : ((c : Int) == 1) = false := by simp; omega
        have hrf : r = false := by rw [← Bool.not_eq_true, HR.out, ← HF.out]; exact e
        subst hrf
        go_wp2
        go_ret
        exact ⟨rfl, by first | rfl | trivial⟩

/-! ## places, and its closure -/
/-- Counts in a row of the call's own, the row in a box. -/
structure Cn (w : World) (B N m : Nat) (c : Nat → Int) (u : World) : Prop where
  box : u.cell? ⟨B, 0, none⟩ = some (.slice (some ⟨N, 0, none⟩) m m)
  row : DI w N m c u
  lo : w.heap.size ≤ B
  hi : B < u.heap.size
  ne : B ≠ N
theorem Cn.kept {w u u' : World} {B N m : Nat} {c : Nat → Int} (h : Cn w B N m c u) (hb : Below u.heap.size u u') : Cn w B N m c u' :=
  ⟨by rw [hb.cell (p := ⟨B, 0, none⟩) h.hi]; exact h.box, h.row.kept hb, h.lo, Nat.lt_of_lt_of_le h.hi hb.size, h.ne⟩
theorem Cn.set {w u : World} {B N m : Nat} {c : Nat → Int} (h : Cn w B N m c u) {i : Nat} (hi : i < m) (x : Int) : Cn w B N m (fun k => if k = i then x else c k) (u.setCell ⟨N, i, none⟩ (.int .i64 x)) :=
  ⟨by rw [World.cell?_setCell_other _ _ _ _ (ne_addr h.ne.symm)]; exact h.box, h.row.set hi x, h.lo, by simpa using h.hi, h.ne⟩
theorem Cn.congr {w u : World} {B N m : Nat} {c c' : Nat → Int} (h : Cn w B N m c u) (hc : ∀ i, i < m → c i = c' i) : Cn w B N m c' u := { h with row := h.row.congr hc }
theorem Cn.new {w u : World} {N m : Nat} {c : Nat → Int} (h : DI w N m c u) : Cn w u.heap.size N m c (u.alloc (.cells #[.slice (some ⟨N, 0, none⟩) m m] 38)) :=
  ⟨by rw [cell_new _ _ _ _ _ rfl]; rfl, h.kept (al _ _), h.bel.size, by simp, fun e => by have := h.hi; omega⟩
theorem DI.ofw {w w1 u : World} {D n : Nat} {d : Nat → Int} (h : DI w1 D n d u) (hb : Below w.heap.size w w1) : DI w D n d u :=
  ⟨h.cell, h.frz, Nat.le_trans hb.size h.lo, h.hi, hb.trans (h.bel.mono hb.size)⟩
theorem Cn.of {w w1 u : World} {B N m : Nat} {c : Nat → Int} (h : Cn w1 B N m c u) (hb : Below w.heap.size w w1) : Cn w B N m c u :=
  ⟨h.box, h.row.ofw hb, Nat.le_trans hb.size h.lo, h.hi, h.ne⟩

theorem tplace_any (B N m d : Nat) (c : Nat → Int) (w u : World) (h : Cn w B N m c u) (hd : d < m) (hc : 0 ≤ c d ∧ c d ≤ 1000000) :
    Calls Tryz.prog 160 #[.int .i64 (d : Int), .pointer (some ⟨B, 0, none⟩)] u fun e u' => e = .returned (.int .i64 (c d)) ∧ u' = u.setCell ⟨N, d, none⟩ (.int .i64 (c d + 1)) := by
  have c0 := h.box
  have c1 := h.row.cell d hd
  have z1 := h.row.frz d hd
  generalize c d = x at *
  obtain ⟨h1, h2⟩ := hc
  have q1 : (0 : Int) ≤ (d : Int) := by omega
  have q2 : (d : Int) < (m : Int) := by omega
  have q3 : IntKind.i64.wrap (x + 1) = x + 1 := IntWalk.i64_in _ (by omega)
  clear h
  go_enter Tryz.func160, Tryz.ntmps160
  go_wp2
  go_ret
  exact ⟨rfl, rfl⟩

end Go.Proofs.YtpnjccomngdblaaGreat
end

section
/- The contracts of places (with what its closure counts) and of following. -/
set_option maxRecDepth 100000
namespace Go.Proofs.YtpnjccomngdblaaGreat
open Go.RowKit
open M
attribute [local go_sem ↓] Go.wp_at_zero Go.wp_at_succ

theorem plcs_take {n i : Nat} (h : i ≤ n) : (plcs n).take i = plcs i := by
  unfold plcs
  rw [← List.map_take, List.take_range, Nat.min_eq_left h]
theorem bkP_succ (δ : Int → Nat) (i d : Nat) : bk δ (plcs (i + 1)) d = bk δ (plcs i) d ++ if δ (i : Int) = d then [(i : Int)] else [] := by
  have h := bk_get δ (plcs (i + 1)) i (by rw [plcs_length]; omega) d
  rw [plcs_take (Nat.le_refl _), plcs_take (by omega), plcs_at _ _ (by omega)] at h
  exact h
theorem bkP_len (δ : Int → Nat) (i d : Nat) : (bk δ (plcs i) d).length ≤ i := by
  have := List.length_filter_le (fun x => decide (δ x = d)) (plcs i)
  rw [plcs_length] at this
  exact this
theorem stP_le (δ : Int → Nat) (n d : Nat) : st δ (plcs n) d ≤ n := by
  have := st_le δ (plcs n) d
  rwa [plcs_length] at this

/-- Places put in buckets by ranks are in the order of the keys. -/
theorem bks_ord {δ κ : Int → Int} {n : Nat} (h : ∀ x y : Nat, x < n → y < n → (δ x < δ y ↔ κ x < κ y)) : ordP δ n = ordP κ n := by
  apply ord_uniq
  · rw [List.pairwise_iff_getElem]
    intro i j hi hj hij
    rw [ordP_length] at hi hj
    have hr := ordP_rise δ n hij hj
    obtain ⟨p, hp, hpn⟩ := ordP_at δ n hi
    obtain ⟨q, hq, hqn⟩ := ordP_at δ n hj
    have e1 : (ordP δ n)[i]'(by rw [ordP_length]; exact hi) = (p : Int) := by
      rw [← hp, List.getD_eq_getElem?_getD, List.getElem?_eq_getElem (by rw [ordP_length]; exact hi), Option.getD_some]
    have e2 : (ordP δ n)[j]'(by rw [ordP_length]; exact hj) = (q : Int) := by
      rw [← hq, List.getD_eq_getElem?_getD, List.getElem?_eq_getElem (by rw [ordP_length]; exact hj), Option.getD_some]
    rw [e1, e2]
    rw [hp, hq] at hr
    have h1 := h p q hpn hqn
    have h2 := h q p hqn hpn
    unfold Ahd
    omega
  · intro x; exact ordP_mem

def cntF (δ : Int → Nat) (i d : Nat) : Int := if d = 0 then 0 else ((bk δ (plcs i) (d - 1)).length : Nat)
def sumF (δ : Int → Nat) (n r d : Nat) : Int := if d ≤ r then ((st δ (plcs n) d : Nat) : Int) else ((bk δ (plcs n) (d - 1)).length : Nat)

set_option maxHeartbeats 4000000 in
theorem tplaces_any (A : Option Addr) (n c : Nat) (l : List Int) (δ : Int → Nat) (w : World) (hA : NumsAt .i64 w A l) (hl : l.length = n) (hn : n ≤ 1000000) (hδ : ∀ i : Nat, i < n → l.getD i 0 = ((δ (i : Int) : Nat) : Int) ∧ δ (i : Int) < n) :
    Calls Tryz.prog 140 #[.slice A n c] w fun e u => ∃ B, e = .returned (.func (.func 160) #[] #[.pointer (some ⟨B, 0, none⟩)]) ∧ ∃ N, Cn w B N (n + 1) (fun d => ((st δ (plcs n) d : Nat) : Int)) u := by
  have HX := Lib.hid (And.intro hA (And.intro hl hδ))
  obtain ⟨i0, hi, hz0, hz1, hz2⟩ := info_parts info3
  clear hA hl hδ
  have q0 : IntKind.i64.wrap ((n : Int) + 1) = ((n + 1 : Nat) : Int) := by rw [Int.natCast_add]; exact IntWalk.i64_in _ (by omega)
  go_enter Tryz.func140, Tryz.ntmps140
  go_wp2_with (first | (at_make; refine wpList_make_full _ rfl _ _ 38 rfl w.heap.size 3 i0 (.int .i64 0) 1 Tryz.underlying38 hi hz0 hz1 _ _ _ _ (n + 1) rfl rfl rfl rfl ?b2 ?b3 (Nat.le_refl _) ?_))
  case b2 => first | omega | (rw [hz2]; omega)
  case b3 => unfold maxLen; omega
  intro w1 hown hgrow
  have hD := DI.made (Below.refl _ _) hown hgrow
  have hC := Cn.new hD
  have HC := Lib.hid hC
  have hsz := hD.bel.size
  clear hown hgrow hD hi hz0 hz1 hz2 hC q0
  obtain ⟨N, hNe⟩ : ∃ N, N = w.heap.size := ⟨_, rfl⟩
  rw [← hNe] at HC
  rw [← hNe]
  clear hNe
  go_upto_region 2 with fail
  obtain ⟨w2, hw2⟩ : ∃ w2, w2 = w1.alloc (.cells #[.slice (some ⟨N, 0, none⟩) (n + 1) (n + 1)] 38) := ⟨_, rfl⟩
  rw [← hw2] at HC
  rw [← hw2]
  clear hw2
  generalize w1.heap.size = B at *
  go_wp2
  go_loopw [5, 13] (fun _ v13 wr => ∃ i : Nat, i ≤ n ∧ v13 = .int .i64 (i : Int) ∧ Cn w B N (n + 1) (fun d => cntF δ i d) wr) (fun _ v13 _ => n - (intOf v13).toNat)
  case atStart => exact ⟨0, Nat.zero_le _, rfl, HC.out.congr fun d _ => by unfold cntF; split <;> simp [bk, plcs]⟩
  case round =>
    obtain ⟨i, hin, rfl, hCn⟩ := hrel
    clear HC
    by_cases hlt : i < n
    · obtain ⟨bb, off, hAe, -, ck⟩ := num_at (HX.out.1.kept hCn.row.bel) (i := i) (by rw [HX.out.2.1]; exact hlt)
      obtain ⟨hd1, hd2⟩ := HX.out.2.2 i hlt
      rw [hd1] at ck
      have hbs := fun d => bkP_succ δ i d
      have hbl := bkP_len δ i
      obtain ⟨e, he⟩ : ∃ e, δ (i : Int) = e := ⟨_, rfl⟩
      rw [he] at ck hd2
      simp only [he] at hbs
      have hble := hbl e
      obtain ⟨f, hf⟩ : ∃ f, e + 1 = f := ⟨_, rfl⟩
      have c0 := hCn.box
      have c1 := hCn.row.cell f (by omega)
      have z1 := hCn.row.frz f (by omega)
      have hcf : cntF δ i f = ((bk δ (plcs i) e).length : Nat) := by unfold cntF; rw [if_neg (by omega), ← hf, Nat.add_sub_cancel]
      simp only [hcf] at c1
      obtain ⟨y, hy⟩ : ∃ y, (bk δ (plcs i) e).length = y := ⟨_, rfl⟩
      rw [hy] at c1 hble
      have hset := hCn.set (i := f) (by omega) ((y : Int) + 1)
      have HS := Lib.hid (And.intro hset (And.intro hbs (And.intro hf hy)))
      have q1 : (i : Int) < (n : Int) := by omega
      have q2 : (0 : Int) ≤ (i : Int) := by omega
      have q3 : IntKind.i64.wrap ((e : Int) + 1) = (f : Int) := by rw [← hf, Int.natCast_add]; exact IntWalk.i64_in _ (by omega)
      have q4 : (0 : Int) ≤ (f : Int) := by omega
      have q5 : (f : Int) < ((n + 1 : Nat) : Int) := by omega
      have q5' : (f : Int) < (n : Int) + 1 := by omega
      have q6 : IntKind.i64.wrap ((y : Int) + 1) = (y : Int) + 1 := IntWalk.i64_in _ (by omega)
      subst hAe
      clear hCn hd1 hbs hbl he hcf hset hf hy
      go_wp2
      go_roundw
      case rel =>
        obtain ⟨h1, h2, h3, h4⟩ := HS.out
        refine ⟨i + 1, by omega, by go_num, h1.congr fun d _ => ?_⟩
        unfold cntF
        by_cases e1 : d = f
        · rw [if_pos e1, if_neg (by omega), e1, ← h3, Nat.add_sub_cancel, h2, if_pos rfl, List.length_append, h4]
          simp
        · rw [if_neg e1]
          by_cases e0 : d = 0
          · rw [if_pos e0, if_pos e0]
          · rw [if_neg e0, if_neg e0, h2, if_neg (by omega), List.append_nil]
      case measure => simp [intOf]; omega
    · obtain rfl : i = n := by omega
      have q1 : ¬ (i : Int) < (i : Int) := by omega
      have hC2 : Cn w B N (i + 1) (fun d => sumF δ i 0 d) wr := hCn.congr fun d _ => by
        unfold cntF sumF
        by_cases e0 : d = 0
        · rw [if_pos e0, if_pos (by omega), e0, st_zero]; rfl
        · rw [if_neg e0, if_neg (by omega)]
      have HC2 := Lib.hid hC2
      clear hCn hC2
      obtain ⟨n, rfl⟩ : ∃ n, n = i := ⟨_, rfl⟩
      go_wp2
      go_loopw [6, 27] (fun _ v27 wr => ∃ r : Nat, r ≤ n ∧ v27 = .int .i64 (r : Int) ∧ Cn w B N (n + 1) (fun d => sumF δ n r d) wr) (fun _ v27 _ => n - (intOf v27).toNat)
      case atStart => exact ⟨0, Nat.zero_le _, rfl, HC2.out⟩
      case round =>
        obtain ⟨r, hrn, rfl, hCn⟩ := hrel
        clear HC2
        by_cases hlt : r < n
        · have hsu := st_succ δ (plcs n) r
          have hsl := stP_le δ n (r + 1)
          have c0 := hCn.box
          have c1 := hCn.row.cell r (by omega)
          have c2 := hCn.row.cell (r + 1) (by omega)
          have z2 := hCn.row.frz (r + 1) (by omega)
          have e1 : sumF δ n r r = ((st δ (plcs n) r : Nat) : Int) := by unfold sumF; rw [if_pos (Nat.le_refl _)]
          have e2 : sumF δ n r (r + 1) = ((bk δ (plcs n) r).length : Nat) := by unfold sumF; rw [if_neg (by omega), Nat.add_sub_cancel]
          simp only [e1] at c1
          simp only [e2] at c2
          rw [hsu] at hsl
          obtain ⟨x, hx⟩ : ∃ x, st δ (plcs n) r = x := ⟨_, rfl⟩
          obtain ⟨y, hy⟩ : ∃ y, (bk δ (plcs n) r).length = y := ⟨_, rfl⟩
          rw [hx] at c1 hsl
          rw [hy] at c2 hsl
          obtain ⟨f, hf⟩ : ∃ f, r + 1 = f := ⟨_, rfl⟩
          have hset := (hCn.kept ((Below.refl _ _).drew)).set (i := f) (by omega) ((y : Int) + (x : Int))
          rw [hf] at c2 z2
          have HS := Lib.hid (And.intro hset (And.intro hsu (And.intro hf (And.intro hx hy))))
          have q1 : (r : Int) < (n : Int) := by omega
          have q2 : (0 : Int) ≤ (r : Int) := by omega
          have q3 : IntKind.i64.wrap ((r : Int) + 1) = (f : Int) := by rw [← hf, Int.natCast_add]; exact IntWalk.i64_in _ (by omega)
          have q4 : (0 : Int) ≤ (f : Int) := by omega
          have q5 : (f : Int) < (n : Int) + 1 := by omega
          have q6 : IntKind.i64.wrap ((y : Int) + (x : Int)) = (y : Int) + (x : Int) := IntWalk.i64_in _ (by omega)
          have q7 : (r : Int) < (n : Int) + 1 := by omega
          clear hCn hset hsu e1 e2 hx hy
          go_wp2
          go_still_tail 11, (by kernel_rfl)
          change wpList _ _ _ _ _ wr.drew
          have c2' : wr.drew.cell? ⟨N, f, none⟩ = some (.int .i64 (y : Int)) := c2
          have z2' : wr.drew.frozen? ⟨N, f, none⟩ = false := z2
          clear c0 c1 c2 z2
          obtain ⟨w3, hw3⟩ : ∃ w3, w3 = wr.drew := ⟨_, rfl⟩
          rw [← hw3] at c2' z2' HS ⊢
          clear hw3
          go_wp2
          go_roundw
          case rel =>
            obtain ⟨h1, h2, h3, h4, h5⟩ := HS.out
            refine ⟨r + 1, by omega, by go_num, h1.congr fun d _ => ?_⟩
            unfold sumF
            by_cases e1 : d = f
            · rw [if_pos e1, if_pos (by omega), e1, ← h3, h2, h4, h5, Int.natCast_add, Int.add_comm]
            · rw [if_neg e1]
              by_cases e0 : d ≤ r
              · rw [if_pos e0, if_pos (by omega)]
              · rw [if_neg e0, if_neg (by omega)]
          case measure => simp [intOf]; omega
        · obtain rfl : r = n := by omega
          have HF := Lib.hid hCn
          clear hCn
          have q1 : ¬ (r : Int) < (r : Int) := by omega
          go_wp2
          go_ret
          exact ⟨B, rfl, N, HF.out.congr fun d hd => by unfold sumF; rw [if_pos (by omega)]⟩

/-! ## following -/
/-- What following holds: the counts, and the row that it lays. -/
structure FO (w : World) (B N D n : Nat) (δ : Int → Nat) (i : Nat) (u : World) : Prop where
  cn : Cn w B N (n + 1) (fun d => ((st δ (plcs n) d + (bk δ (plcs i) d).length : Nat) : Int)) u
  out : ∃ o, DI w D n o u ∧ ∀ d j, d < n → j < (bk δ (plcs i) d).length → o (st δ (plcs n) d + j) = (bk δ (plcs i) d).getD j 0
  n1 : D ≠ N
  n2 : D ≠ B
theorem stP_lt {δ : Int → Nat} {n i : Nat} (hi : i < n) : st δ (plcs n) (δ (i : Int)) + (bk δ (plcs i) (δ (i : Int))).length < st δ (plcs n) (δ (i : Int) + 1) := by
  have := st_bk_lt δ (plcs n) i (by rw [plcs_length]; exact hi)
  rw [plcs_at n i hi, plcs_take (by omega)] at this
  exact this
theorem FO.lay {w u : World} {B N D n i : Nat} {δ : Int → Nat} (h : FO w B N D n δ i u) (hi : i < n) (hd : δ (i : Int) < n) :
    FO w B N D n δ (i + 1) ((u.setCell ⟨N, δ (i : Int), none⟩ (.int .i64 (((st δ (plcs n) (δ (i : Int)) + (bk δ (plcs i) (δ (i : Int))).length : Nat) : Int) + 1))).setCell ⟨D, st δ (plcs n) (δ (i : Int)) + (bk δ (plcs i) (δ (i : Int))).length, none⟩ (.int .i64 (i : Int))) := by
  have hlt := stP_lt (δ := δ) hi
  have hle := stP_le δ n (δ (i : Int) + 1)
  have hbs := fun d => bkP_succ δ i d
  obtain ⟨e, he⟩ : ∃ e, δ (i : Int) = e := ⟨_, rfl⟩
  rw [he] at hlt hle hd
  simp only [he] at hbs ⊢
  have h1 := h.cn.set (i := e) (by omega) (((st δ (plcs n) e + (bk δ (plcs i) e).length : Nat) : Int) + 1)
  obtain ⟨o, ho, hv⟩ := h.out
  obtain ⟨p, hp⟩ : ∃ p, st δ (plcs n) e + (bk δ (plcs i) e).length = p := ⟨_, rfl⟩
  rw [hp] at h1 hlt ⊢
  have h2 : Cn w B N (n + 1) (fun k => if k = e then (p : Int) + 1 else ((st δ (plcs n) k + (bk δ (plcs i) k).length : Nat) : Int)) ((u.setCell ⟨N, e, none⟩ (.int .i64 ((p : Int) + 1))).setCell ⟨D, p, none⟩ (.int .i64 (i : Int))) :=
    ⟨by rw [World.cell?_setCell_other _ _ _ _ (ne_addr h.n2)]; exact h1.box, h1.row.other (p := ⟨D, p, none⟩) ho.lo h.n1 _, h1.lo, by simpa using h1.hi, h1.ne⟩
  refine ⟨h2.congr fun d _ => ?_, ⟨_, (ho.other (p := ⟨N, e, none⟩) h.cn.row.lo (Ne.symm h.n1) _).set (i := p) (by omega) (i : Int), fun d j hdn hj => ?_⟩, h.n1, h.n2⟩
  · rw [hbs d, List.length_append]
    by_cases e1 : d = e
    · rw [if_pos e1, if_pos e1.symm, e1, ← hp]
      simp only [List.length_singleton]
      omega
    · rw [if_neg e1, if_neg (fun h => e1 h.symm)]; rfl
  · rw [hbs d] at hj ⊢
    by_cases e1 : e = d
    · subst e1
      rw [if_pos rfl] at hj ⊢
      rw [List.length_append, List.length_singleton] at hj
      by_cases ej : j = (bk δ (plcs i) e).length
      · subst ej
        rw [if_pos hp]
        simp [List.getD_eq_getElem?_getD]
      · have hj2 : j < (bk δ (plcs i) e).length := by omega
        rw [if_neg (by omega), hv e j hdn hj2]
        simp [List.getD_eq_getElem?_getD, List.getElem?_append_left hj2]
    · rw [if_neg e1, List.append_nil] at hj ⊢
      have hne : st δ (plcs n) d + j ≠ p := by
        have l1 := bk_le δ (plcs n) i d
        rw [plcs_take (by omega)] at l1
        have l2 := st_succ δ (plcs n) d
        have l3 := st_succ δ (plcs n) e
        rcases Nat.lt_or_gt_of_ne e1 with hlt2 | hlt2
        · have := st_mono δ (plcs n) (show e + 1 ≤ d by omega); omega
        · have := st_mono δ (plcs n) (show d + 1 ≤ e by omega); omega
      rw [if_neg hne, hv d j hdn hj]

set_option maxHeartbeats 4000000 in
theorem following_any (A : Option Addr) (n c : Nat) (b : List Int) (w : World) (hA : NumsAt .i64 w A b) (hl : b.length = n) (hn : n ≤ 100000) (h64 : I64s b) :
    Calls Tryz.prog 102 #[.slice A n c] w fun e u => ∃ D, e = .returned (.slice (some ⟨D, 0, none⟩) n n) ∧ NumsAt .i64 u (some ⟨D, 0, none⟩) (ordP (kyI b) n) ∧ Below w.heap.size w u := by
  obtain ⟨κ, hκ⟩ : ∃ κ, κ = kyI b := ⟨_, rfl⟩
  have hrk := ranks_any A n c b w hA hl (by omega) h64
  rw [← hκ] at hrk ⊢
  obtain ⟨δ, hδ⟩ : ∃ δ : Int → Nat, δ = fun x => nless κ n (κ x) := ⟨_, rfl⟩
  have hδe : ∀ x, δ x = nless κ n (κ x) := fun x => by rw [hδ]
  clear hδ
  have hd : ∀ i : Nat, i < n → (rnkL κ n).getD i 0 = ((δ (i : Int) : Nat) : Int) ∧ δ (i : Int) < n := fun i hi => ⟨by rw [rnkL_at κ n i hi, hδe], by rw [hδe]; exact nless_below κ n hi⟩
  have hord : bks δ (plcs n) n = ordP κ n := by
    have hb := bks_same δ (plcs n) n (fun x hx => by
      have := plcs_mem.1 hx
      obtain ⟨k, rfl⟩ : ∃ k : Nat, x = (k : Int) := ⟨x.toNat, by omega⟩
      exact (hd k (by omega)).2)
    have h1 : bks δ (plcs n) n = ordP (fun x => ((δ x : Nat) : Int)) n := isort_uniq hb.1 hb.2
    rw [h1]
    apply bks_ord
    intro x y hx hy
    have := (nless_iff κ n hx hy).1
    rw [hδe, hδe]
    omega
  clear hδe hκ
  have HX := Lib.hid (And.intro hrk (And.intro hd (And.intro hord (And.intro hA hl))))
  obtain ⟨i0, hi, hz0, hz1, hz2⟩ := info_parts info3
  clear hA hl hrk hd hord h64
  go_enter Tryz.func102, Tryz.ntmps102
  go_wp2_with fail
  (with_reducible refine HX.out.1.mono ?_)
  rintro e u1 ⟨D1, rfl, h1, h2⟩
  have htp := tplaces_any (some ⟨D1, 0, none⟩) n n (rnkL κ n) δ u1 h1 (rnkL_length _ _) (by omega) HX.out.2.1
  have H1 := Lib.hid (And.intro h1 (And.intro h2 htp))
  clear h1 h2 htp
  go_wp2_with fail
  (with_reducible refine H1.out.2.2.mono ?_)
  rintro e u2 ⟨B, rfl, N, hC⟩
  have H2 := Lib.hid hC
  have hs2 := hC.row.bel.size
  have hs1 := H1.out.2.1.size
  clear hC
  go_wp2_with (first | (at_make; refine wpList_make_full _ rfl _ _ 38 rfl u2.heap.size 3 i0 (.int .i64 0) 1 Tryz.underlying38 hi hz0 hz1 _ _ _ _ n rfl rfl rfl rfl ?b2 ?b3 (Nat.le_refl _) ?_))
  case b2 => first | omega | (rw [hz2]; omega)
  case b3 => unfold maxLen; omega
  intro w3 hown hgrow
  have hb3 : Below u2.heap.size u2 w3 := below_grown hgrow
  have hD := DI.made H2.out.row.bel hown hgrow
  have hFO : FO u1 B N u2.heap.size n δ 0 w3 := by
    refine ⟨(H2.out.kept hb3).congr fun d _ => by simp [bk, plcs], ⟨_, hD, fun d j _ hj => by simp [bk, plcs] at hj⟩, ?_, ?_⟩
    · have := H2.out.row.hi; omega
    · have := H2.out.hi; omega
  have HF := Lib.hid hFO
  clear hown hgrow hb3 hD hFO hi hz0 hz1 hz2 H2
  generalize u2.heap.size = D at *
  go_wp2
  go_loopw [6, 7, 17] (fun _ _ v17 wr => ∃ i : Nat, i ≤ n ∧ v17 = .int .i64 (i : Int) ∧ FO u1 B N D n δ i wr) (fun _ _ v17 _ => n - (intOf v17).toNat)
  case atStart => exact ⟨0, Nat.zero_le _, rfl, HF.out⟩
  case round =>
    obtain ⟨i, hin, rfl, hF⟩ := hrel
    clear HF
    by_cases hlt : i < n
    · obtain ⟨hd1, hd2⟩ := HX.out.2.1 i hlt
      obtain ⟨bb, off, hAe, -, ck⟩ := num_at (H1.out.1.kept hF.cn.row.bel) (i := i) (by rw [rnkL_length]; exact hlt)
      simp only [Option.some.injEq, Addr.mk.injEq, and_true] at hAe
      obtain ⟨rfl, rfl⟩ := hAe
      rw [hd1, Nat.zero_add] at ck
      have hlay := hF.lay hlt hd2
      have hpn := stP_lt (δ := δ) hlt
      have hpe := stP_le δ n (δ (i : Int) + 1)
      have hcl := tplace_any B N (n + 1) (δ (i : Int)) _ u1 wr hF.cn (by omega) (by omega)
      obtain ⟨o, ho, -⟩ := hF.out
      have hn1 := hF.n1
      obtain ⟨e, he⟩ : ∃ e, δ (i : Int) = e := ⟨_, rfl⟩
      rw [he] at ck hlay hpn hcl hd2 hpe
      obtain ⟨p, hp⟩ : ∃ p, st δ (plcs n) e + (bk δ (plcs i) e).length = p := ⟨_, rfl⟩
      rw [hp] at hlay hpn hcl
      have cD := ho.cell p (by omega)
      have zD := ho.frz p (by omega)
      have cD' : (wr.setCell ⟨N, e, none⟩ (.int .i64 ((p : Int) + 1))).cell? ⟨D, p, none⟩ = some (.int .i64 (o p)) := by rw [World.cell?_setCell_other _ _ _ _ (ne_addr hn1.symm)]; exact cD
      have zD' : (wr.setCell ⟨N, e, none⟩ (.int .i64 ((p : Int) + 1))).frozen? ⟨D, p, none⟩ = false := by simpa using zD
      have HL := Lib.hid (And.intro hlay hcl)
      have q1 : (i : Int) < (n : Int) := by omega
      have q2 : (0 : Int) ≤ (i : Int) := by omega
      have q3 : (p : Int) < (n : Int) := by omega
      have q4 : (0 : Int) ≤ (p : Int) := by omega
      generalize o p = ov at *
      clear hd1 hlay hcl ho hn1 he hp cD zD hF hpe
      go_wp2_with fail
      (with_reducible refine HL.out.2.mono ?_)
      rintro e u5 ⟨rfl, rfl⟩
      go_wp2
      go_roundw
      case rel => exact ⟨i + 1, by omega, by go_num, HL.out.1⟩
      case measure => simp [intOf]; omega
    · obtain rfl : i = n := by omega
      have HF := Lib.hid hF
      clear hF
      have q1 : ¬ (i : Int) < (i : Int) := by omega
      go_wp2
      go_ret
      obtain ⟨o, ho, hv⟩ := HF.out.out
      have hall : st δ (plcs i) i = i := by
        have := st_all δ (plcs i) i (fun x hx => by
          have := plcs_mem.1 hx
          obtain ⟨k, rfl⟩ : ∃ k : Nat, x = (k : Int) := ⟨x.toNat, by omega⟩
          exact (HX.out.2.1 k (by omega)).2)
        rwa [plcs_length] at this
      refine ⟨D, rfl, ho.nums (ordP_length _ _) (fun j hj => ?_), H1.out.2.1.trans (ho.bel.mono H1.out.2.1.size)⟩
      obtain ⟨d, j', h1, h2, h3⟩ := bks_at δ (plcs i) i j (by omega)
      have h4 := bks_get δ (plcs i) h2 i h1
      rw [HX.out.2.2.1] at h4
      rw [h3, hv d j' h1 h2, List.getD_eq_getElem?_getD, List.getD_eq_getElem?_getD, h4]

end Go.Proofs.YtpnjccomngdblaaGreat
end

section
/- The contracts of behind, Next and Back. -/
set_option maxRecDepth 100000
namespace Go.Proofs.YtpnjccomngdblaaGreat
open Go.RowKit
open M
attribute [local go_sem ↓] Go.wp_at_zero Go.wp_at_succ

/-- The places round the ring, from the second step on. -/
def ringL (f : Nat → Nat) (k : Nat) : List Int := (List.range k).map fun i => (itS f (i + 2) : Int)
theorem ringL_len (f : Nat → Nat) (k : Nat) : (ringL f k).length = k := by simp [ringL]
theorem ringL_succ (f : Nat → Nat) (k : Nat) : ringL f (k + 1) = ringL f k ++ [(itS f (k + 2) : Int)] := by
  unfold ringL
  rw [List.range_succ, List.map_append]; rfl
theorem ringL_at (f : Nat → Nat) {k i : Nat} (h : i < k) : (ringL f k).getD i 0 = (itS f (i + 2) : Int) := by simp [ringL, List.getD_eq_getElem?_getD, h]

set_option maxHeartbeats 4000000 in
theorem behind_any (A : Option Addr) (n c : Nat) (o : List Int) (w : World) (hA : NumsAt .i64 w A o) (hl : o.length = n) (hn : n ≤ 100000) (h0 : 0 < n) (hin : ∀ j, j < n → o.getD j 0 = (sgL o j : Int)) (hR : Ring (sgL o) n) :
    Calls Tryz.prog 103 #[.slice A n c] w fun e u => ∃ v, e = .returned v ∧ ∃ k, Cyc (sgL o) (k + 1) ∧ k < n ∧ OwnI w v (ringL (sgL o) k) u := by
  have hcell : ∀ u, Below w.heap.size w u → ∀ i, i < n → ∃ bb off, A = some ⟨bb, off, none⟩ ∧ u.cell? ⟨bb, off + i, none⟩ = some (.int .i64 (sgL o i : Int)) := fun u hb i hi => by
    obtain ⟨b2, o2, e2, -, c2⟩ := num_at (hA.kept hb) (i := i) (by omega)
    rw [hin i hi] at c2
    exact ⟨b2, o2, e2, c2⟩
  generalize sgL o = f at *
  obtain ⟨i0, hi, hz0, hz1, hz2⟩ := info_parts info3
  have HX := Lib.hid (And.intro hcell hR)
  clear hA hl hin hcell hR
  go_enter Tryz.func103, Tryz.ntmps103
  go_wp2_with fail
  go_step3
  go_wp2_with (first | (at_make; refine wpList_make_own _ rfl _ _ 38 rfl w.heap.size 3 i0 (.int .i64 0) 1 Tryz.underlying38 hi hz0 hz1 _ _ _ n rfl rfl rfl ?b2 ?b3 (Nat.le_refl _) ?_))
  case b2 => first | omega | (rw [hz2]; omega)
  case b3 => unfold maxLen; omega
  intro w1 hown hgrow
  have hO : OwnI w (.slice (some ⟨w.heap.size, 0, none⟩) 0 n) [] w1 := ⟨hown, below_grown hgrow⟩
  obtain ⟨bb, off, hAe, ck⟩ := HX.out.1 w1 hO.2 0 h0
  have HO := Lib.hid hO
  clear hown hgrow hO hi hz0 hz1 hz2
  subst hAe
  obtain ⟨D, hDe⟩ : ∃ D, D = w.heap.size := ⟨_, rfl⟩
  rw [← hDe] at HO
  rw [← hDe]
  clear hDe
  rw [Nat.add_zero] at ck
  have q1 : (0 : Int) < (n : Int) := by omega
  go_wp2
  go_step3
  go_wp2
  go_loopg [3, 4] n (fun g v3 v4 wr => ∃ k : Nat, k + g = n ∧ 0 < g ∧ v4 = .int .i64 (itS f (k + 1) : Int) ∧ OwnI w v3 (ringL f k) wr ∧ ∀ i, 0 < i → i ≤ k → itS f i ≠ 0)
  case atStart => exact ⟨0, by omega, h0, rfl, HO.out, fun i h1 h2 => by omega⟩
  case round =>
    obtain ⟨k, hkn, hg0, rfl, hI, hno⟩ := hrel
    clear HO
    obtain ⟨q, hq⟩ : ∃ q, itS f (k + 1) = q := ⟨_, rfl⟩
    by_cases hz : q = 0
    · have hcyc : Cyc f (k + 1) := ⟨by omega, by rw [hq, hz], fun i h1 h2 => hno i h1 (by omega)⟩
      have HF := Lib.hid (And.intro hcyc hI)
      rw [hq]
      have q2 : ((q : Int) == 0) = true := by simp; omega
      clear hcyc hI hno hq ck
      go_wp2
      try rw [Exit.noGoto_ret]
      go_ret
      exact ⟨_, rfl, k, HF.out.1, by omega, HF.out.2⟩
    · have hno2 : ∀ i, 0 < i → i ≤ k + 1 → itS f i ≠ 0 := fun i h1 h2 => by
        by_cases e : i = k + 1
        · rw [e, hq]; exact hz
        · exact hno i h1 (by omega)
      have hfew := HX.out.2.few h0 hno2
      have hqn : q < n := by rw [← hq]; exact HX.out.2.itlt h0 _
      obtain ⟨b2, o2, hAe, ck2⟩ := HX.out.1 wr hI.2 q hqn
      simp only [Option.some.injEq, Addr.mk.injEq, and_true] at hAe
      obtain ⟨rfl, rfl⟩ := hAe
      have hsu := ringL_succ f k
      have hml := ringL_len f k
      have hnx : itS f (k + 2) = f q := by rw [← hq]; rfl
      rw [hnx] at hsu
      have hsz := hI.2.size
      have HM := Lib.hid (And.intro hI (And.intro hsu (And.intro hml (And.intro hno2 hnx))))
      rw [hq]
      have q2 : ((q : Int) == 0) = false := by simp; omega
      have q3 : (q : Int) < (n : Int) := by omega
      have q4 : (0 : Int) ≤ (q : Int) := by omega
      clear hI hno hq ck hsu hml hno2 hnx
      go_wp2_with (first
        | (at_builtin
           refine wpList_append_nums rfl (.tmp 16) (.tmp 18) rfl w.heap.size _ _ _ rfl (HM.out.1.alloc _).1 (some ⟨_, 0, none⟩) 1 1 [(f q : Int)] rfl rfl ?c1 (by simp) ?c2 ?c3 ?_))
      case c1 => exact nums_one _ _
      case c2 => rw [HM.out.2.2.1]; omega
      case c3 => first | omega | (simp; omega)
      intro v' w5 hown hgrow _
      have hI5 := (HM.out.1.alloc _).app (l' := ringL f k ++ [(f q : Int)]) (by simpa using hown) hgrow
      have HX5 := Lib.hid hI5
      clear hown hgrow hI5
      go_wp2
      go_roundg (gk - 1)
      case measure => omega
      case rel => exact ⟨k + 1, by omega, by omega, by rw [← HM.out.2.2.2.2], by rw [HM.out.2.1]; exact HX5.out, HM.out.2.2.2.1⟩

/-! ## Next, Back -/
theorem ord_nat (κ : Int → Int) (n : Nat) : ∀ j, j < n → (ordP κ n).getD j 0 = (sgL (ordP κ n) j : Int) := fun j hj => by
  obtain ⟨p, e, -⟩ := ordP_at κ n hj
  unfold sgL
  rw [e, Int.toNat_natCast]

set_option maxHeartbeats 4000000 in
/-- Next of a row turned. -/
theorem next_ok (A : Option Addr) (n c : Nat) (l : List Int) (w : World) (hA : NumsAt .i64 w A (turnL l)) (hl : l.length + 1 = n) (hn : n ≤ 100000) (h64 : I64s l) (hnn : Nn l) (hb64 : I64s (turnL l)) :
    Calls Tryz.prog 76 #[.slice A n c] w fun e u => ∃ D, e = .returned (.tuple #[.slice (some ⟨D, 0, none⟩) n n, .int .i64 0]) ∧ NumsAt .i64 u (some ⟨D, 0, none⟩) (nextL l) ∧ Below w.heap.size w u := by
  have hbl : (turnL l).length = n := by rw [turnL_len]; exact hl
  have he := ended_any A n c (turnL l) w hA hbl (by omega) true (by simp [turn_ended h64 hnn])
  have hf := following_any A n c (turnL l) w hA hbl hn hb64
  have ho := turn_ord h64 hnn
  have hc := turn_cyc h64 hnn
  have hR := ord_ring (kyI (turnL l)) n
  have hN := ord_nat (kyI (turnL l)) n
  rw [hl] at ho hc
  rw [ho] at hf hR hN
  have hnl : (nextL l).length = n := by rw [nextL_len]; exact hl
  have hbh := fun D u (hu : NumsAt .i64 u (some ⟨D, 0, none⟩) (nextL l)) => behind_any (some ⟨D, 0, none⟩) n n (nextL l) u hu hnl hn (by omega) hN hR
  have HX := Lib.hid (And.intro he (And.intro hf (And.intro hbh hc)))
  clear hA hbl he hf ho hc hR hN hbh hnl h64 hnn hb64
  go_enter Tryz.func76, Tryz.ntmps76
  go_wp2_with fail
  (with_reducible refine HX.out.1.mono ?_)
  rintro e u ⟨rfl, rfl⟩
  go_wp2_with fail
  (with_reducible refine HX.out.2.1.mono ?_)
  rintro e u1 ⟨D, rfl, h1, h2⟩
  have hca := HX.out.2.2.1 D u1 h1
  have HCA := Lib.hid hca
  have H1 := Lib.hid (And.intro h1 h2)
  clear h1 h2 hca
  go_wp2_with fail
  (with_reducible refine HCA.out.mono ?_)
  rintro e u2 ⟨v, rfl, k, hk, hkn, hI⟩
  have hkk := hk.uniq HX.out.2.2.2
  obtain ⟨P, pc, rfl, -, -, -, -, -⟩ := nums_of_own hI.1
  have H2 := Lib.hid (And.intro (H1.out.1.kept hI.2) (H1.out.2.trans (hI.2.mono H1.out.2.size)))
  clear hI hk
  rw [ringL_len]
  have q1 : IntKind.i64.wrap ((n : Int) - 1) = (k : Int) := by
    rw [show (n : Int) - 1 = (k : Int) by omega]
    exact IntWalk.i64_in _ (by omega)
  go_wp2
  go_ret2
  exact ⟨D, rfl, H2.out.1, H2.out.2⟩

set_option maxHeartbeats 4000000 in
/-- Next of any other row. -/
theorem next_no (A : Option Addr) (n c : Nat) (b : List Int) (w : World) (hA : NumsAt .i64 w A b) (hl : b.length = n) (hn : n ≤ 100000) (h64 : I64s b) (hno : ¬ Tb b) :
    Calls Tryz.prog 76 #[.slice A n c] w fun e u => e = .returned (.tuple #[.slice none 0 0, .int .i64 10]) ∧ Below w.heap.size w u := by
  rw [tb_iff h64, hl] at hno
  by_cases hE : Ended b
  · have he := ended_any A n c b w hA hl (by omega) true (by simp [hE])
    have hf := following_any A n c b w hA hl hn h64
    have h0 : 0 < n := by obtain ⟨k, hk, -⟩ := hE; omega
    have hR := ord_ring (kyI b) n
    have hN := ord_nat (kyI b) n
    have hbh := fun D u (hu : NumsAt .i64 u (some ⟨D, 0, none⟩) (ordP (kyI b) n)) => behind_any (some ⟨D, 0, none⟩) n n _ u hu (ordP_length _ _) hn h0 hN hR
    have hno2 : ¬ Cyc (sgL (ordP (kyI b) n)) n := fun h => hno ⟨hE, h⟩
    have HX := Lib.hid (And.intro he (And.intro hf (And.intro hbh hno2)))
    clear hA hl he hf hR hN hbh h64 hno hno2 hE
    go_enter Tryz.func76, Tryz.ntmps76
    go_wp2_with fail
    (with_reducible refine HX.out.1.mono ?_)
    rintro e u ⟨rfl, rfl⟩
    go_wp2_with fail
    (with_reducible refine HX.out.2.1.mono ?_)
    rintro e u1 ⟨D, rfl, h1, h2⟩
    have hca := HX.out.2.2.1 D u1 h1
    have HCA := Lib.hid hca
    have H1 := Lib.hid h2
    clear h1 h2 hca
    go_wp2_with fail
    (with_reducible refine HCA.out.mono ?_)
    rintro e u2 ⟨v, rfl, k, hk, hkn, hI⟩
    have hkk : k + 1 ≠ n := fun e => HX.out.2.2.2 (e ▸ hk)
    obtain ⟨P, pc, rfl, -, -, -, -, -⟩ := nums_of_own hI.1
    have H2 := Lib.hid (H1.out.trans (hI.2.mono H1.out.size))
    clear hI hk
    rw [ringL_len]
    obtain ⟨m, hm⟩ : ∃ m : Nat, (n : Int) - 1 = (m : Int) := ⟨n - 1, by omega⟩
    have q1 : IntKind.i64.wrap ((n : Int) - 1) = (m : Int) := by
      rw [hm]
      exact IntWalk.i64_in _ (by omega)
    have q2 : ((k : Int) == (m : Int)) = false := by simp; omega
    clear hm
    go_wp2
    go_ret2
    exact ⟨rfl, H2.out⟩
  · have he := ended_any A n c b w hA hl (by omega) false (by simp [hE])
    have HX := Lib.hid he
    clear hA hl he h64 hno hE
    go_enter Tryz.func76, Tryz.ntmps76
    go_wp2_with fail
    (with_reducible refine HX.out.mono ?_)
    rintro e u ⟨rfl, rfl⟩
    go_wp2
    go_ret2
    exact ⟨rfl, Below.refl _ _⟩

end Go.Proofs.YtpnjccomngdblaaGreat
end

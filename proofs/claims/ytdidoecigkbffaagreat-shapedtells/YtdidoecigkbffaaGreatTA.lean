/- Plain: what two rows give first is the lightest heap of all that lie there; how deep a lone heap lies, told join by join. -/
import Derived.Test.YtdidoecigkbffaaGreatJA
namespace Go.Proofs.YtdidoecigkbffaaGreat.J

/-- The weight of heap k. -/
def Q.wt (s : Q) (k : Nat) : Int := s.W.getD k 0
/-- The heap that was taken as the j-th. -/
def Q.at (s : Q) (j : Nat) : Nat := s.q.getD j 0

/-- Both rows rise; what was taken weighs no more than what was taken later or lies there still. -/
structure QS (L t m : Nat) (s : Q) : Prop where
  lone : ∀ i j, i ≤ j → j < L → s.wt i ≤ s.wt j
  made : ∀ i, i < t → s.wt (L + i) = min (s.wt (s.at (2 * i)) + s.wt (s.at (2 * i + 1))) big
  nn : ∀ k, k < L + t → 0 ≤ s.wt k ∧ s.wt k ≤ big
  seq : ∀ i j, i ≤ j → j < m → s.wt (s.at i) ≤ s.wt (s.at j)
  rest : ∀ j, j < m → ∀ k, k < L + t → k ∉ s.q → s.wt (s.at j) ≤ s.wt k

variable {L t m : Nat} {s : Q}

theorem QS.made_le (h : QS L t m s) (hm : 2 * t ≤ m) : ∀ i j, L ≤ i → i ≤ j → j < L + t → s.wt i ≤ s.wt j := by
  intro i j hi hij hj
  have e1 := h.made (i - L) (by omega)
  have e2 := h.made (j - L) (by omega)
  rw [show L + (i - L) = i by omega] at e1
  rw [show L + (j - L) = j by omega] at e2
  have a1 := h.seq (2 * (i - L)) (2 * (j - L)) (by omega) (by omega)
  have a2 := h.seq (2 * (i - L) + 1) (2 * (j - L) + 1) (by omega) (by omega)
  rw [e1, e2]
  omega

/-- What is taken is the lightest; of those that weigh the same the first. -/
theorem QS.least (h : QS L t m s) (hq : QH L t m s) (hm : 2 * t ≤ m) {k : Nat} (hk : k < L + t) (hn : k ∉ s.q) : s.wt (s.pk L) < s.wt k ∨ (s.wt (s.pk L) = s.wt k ∧ s.pk L ≤ k) := by
  rw [hq.mem] at hn
  have ha := hq.ha; have hb := hq.hb; have hbt := hq.hbt; have hl := hq.len
  have l1 : k < L → s.wt s.a ≤ s.wt k := fun e => h.lone _ _ (by omega) e
  have l2 : L ≤ k → s.wt s.b ≤ s.wt k := fun e => h.made_le hm _ _ hb (by omega) hk
  unfold Q.pk
  by_cases e : s.pick L = true
  · rw [if_pos e]
    unfold Q.pick pickB at e
    simp only [decide_eq_true_eq, hl] at e
    change s.a < L ∧ (s.b = L + t ∨ s.wt s.a ≤ s.wt s.b) at e
    by_cases c : k < L
    · have := l1 c; omega
    · have := l2 (by omega)
      omega
  · rw [if_neg e]
    unfold Q.pick pickB at e
    simp only [decide_eq_true_eq, hl] at e
    change ¬(s.a < L ∧ (s.b = L + t ∨ s.wt s.a ≤ s.wt s.b)) at e
    by_cases c : k < L
    · have := l1 c; omega
    · have := l2 (by omega); omega

/-- The same by numbers, where they rise as places do among those that weigh the same. -/
theorem QS.least_num (h : QS L t m s) (hq : QH L t m s) (hm : 2 * t ≤ m) (num : Nat → Nat) (hnum : ∀ i j, i < j → j < L + t → s.wt i = s.wt j → num i < num j) {k : Nat} (hk : k < L + t) (hn : k ∉ s.q) (hne : k ≠ s.pk L) :
    s.wt (s.pk L) < s.wt k ∨ (s.wt (s.pk L) = s.wt k ∧ num (s.pk L) < num k) := by
  rcases h.least hq hm hk hn with e | ⟨e, e'⟩
  · exact .inl e
  · exact .inr ⟨e, hnum _ _ (by omega) hk e⟩

theorem adv_W (s : Q) (L : Nat) : (s.adv L).W = s.W := by unfold Q.adv; split <;> rfl
theorem adv_wt (s : Q) (L k : Nat) : (s.adv L).wt k = s.wt k := by unfold Q.wt; rw [adv_W]

theorem QS.adv (h : QS L t m s) (hq : QH L t m s) (hm : m < L + t) (h2 : 2 * t ≤ m) (ht : t ≤ m / 2) : QS L t (m + 1) (s.adv L) := by
  obtain ⟨hA, e⟩ := hq.adv hm ht
  have hat : ∀ j, (s.adv L).at j = if j < m then s.at j else if j = m then s.pk L else 0 := by
    intro j
    unfold Q.at
    rw [e, getD_snoc, hq.qlen]
  have hp := hq.pk_lt hm
  have hpn := hq.pk_new
  refine ⟨fun i j a b => ?_, fun i hi => ?_, fun k hk => ?_, fun i j a b => ?_, fun j hj k hk hn => ?_⟩
  · rw [adv_wt, adv_wt]; exact h.lone i j a b
  · simp only [adv_wt]
    rw [hat, hat, if_pos (by omega), if_pos (by omega)]; exact h.made i hi
  · rw [adv_wt]; exact h.nn k hk
  · simp only [adv_wt]
    rw [hat, hat]
    by_cases c : j < m
    · rw [if_pos (by omega), if_pos c]; exact h.seq i j a c
    · rw [if_neg c, if_pos (show j = m by omega)]
      by_cases c' : i < m
      · rw [if_pos c']; exact h.rest i c' _ hp hpn
      · rw [if_neg c', if_pos (show i = m by omega)]; exact Int.le_refl _
  · simp only [adv_wt]
    rw [e, List.mem_append, List.mem_singleton] at hn
    rw [hat]
    by_cases c : j < m
    · rw [if_pos c]; exact h.rest j c k hk (fun x => hn (.inl x))
    · rw [if_neg c, if_pos (show j = m by omega)]
      rcases h.least hq h2 hk (fun x => hn (.inl x)) with d | ⟨d, -⟩
      · exact Int.le_of_lt d
      · exact Int.le_of_eq d

theorem QS.stp (h : QS L t (2 * t) s) (hq : QH L t (2 * t) s) (ht : t + 1 < L) : QS L (t + 1) (2 * (t + 1)) (s.stp L) := by
  obtain ⟨q1, e1⟩ := hq.adv (by omega) (by omega)
  have s1 := h.adv hq (by omega) (by omega) (by omega)
  obtain ⟨q2, e2⟩ := q1.adv (by omega) (by omega)
  have s2 := s1.adv q1 (by omega) (by omega) (by omega)
  have hl := q2.len
  have hlt := q2.lt
  have hx : (s.adv L).wt (s.pk L) = ((s.adv L).adv L).wt (((s.adv L).adv L).at (2 * t)) := by
    rw [adv_wt (s.adv L)]; unfold Q.at
    rw [e2, getD_snoc, q1.qlen, if_pos (by omega), e1, getD_snoc, hq.qlen, if_neg (by omega), if_pos rfl]
  have hy : (s.adv L).wt ((s.adv L).pk L) = ((s.adv L).adv L).wt (((s.adv L).adv L).at (2 * t + 1)) := by
    rw [adv_wt (s.adv L)]; unfold Q.at
    rw [e2, getD_snoc, q1.qlen, if_neg (by omega), if_pos rfl]
  have hat : ∀ j, (s.stp L).at j = ((s.adv L).adv L).at j := fun _ => rfl
  generalize hu : (s.adv L).adv L = u at *
  have hw : ∀ k, k < L + t → (s.stp L).wt k = u.wt k := by
    intro k hk
    unfold Q.wt Q.stp Q.join
    rw [hu]
    simp only [List.getD_eq_getElem?_getD]
    rw [List.getElem?_append_left (by omega)]
  have hnew : (s.stp L).wt (L + t) = min (u.wt (u.at (2 * t)) + u.wt (u.at (2 * t + 1))) big := by
    rw [← hx, ← hy, ← adv_wt (s.adv L), ← adv_wt (s.adv L), hu]
    unfold Q.stp Q.join Q.wt
    rw [hu]
    simp only [List.getD_eq_getElem?_getD]
    rw [List.getElem?_append_right (by omega), show L + t - u.W.length = 0 by omega]
    rfl
  have hal : ∀ j, j < 2 * t + 1 + 1 → u.at j < L + t := by
    intro j hj
    have := hlt j hj
    unfold Q.at; omega
  have n1 := s2.nn (u.at (2 * t)) (hal _ (by omega))
  have n2 := s2.nn (u.at (2 * t + 1)) (hal _ (by omega))
  have hmost : ∀ j, j < 2 * t + 1 + 1 → u.wt (u.at j) ≤ (s.stp L).wt (L + t) := by
    intro j hj
    have := s2.seq j (2 * t + 1) (by omega) (by omega)
    rw [hnew]; omega
  refine ⟨fun i j a b => ?_, fun i hi => ?_, fun k hk => ?_, fun i j a b => ?_, fun j hj k hk hn => ?_⟩
  · rw [hw _ (by omega), hw _ (by omega)]; exact s2.lone i j a b
  · rw [hat, hat, hw _ (hal _ (by omega)), hw _ (hal _ (by omega))]
    by_cases c : i < t
    · rw [hw _ (by omega)]; exact s2.made i c
    · obtain rfl : i = t := by omega
      exact hnew
  · by_cases c : k < L + t
    · rw [hw _ c]; exact s2.nn k c
    · obtain rfl : k = L + t := by omega
      rw [hnew]; unfold big at *; omega
  · rw [hat, hat, hw _ (hal _ (by omega)), hw _ (hal _ (by omega))]; exact s2.seq i j a (by omega)
  · rw [hat, hw _ (hal _ (by omega))]
    by_cases c : k < L + t
    · rw [hw _ c]
      refine s2.rest j (by omega) k c ?_
      have : (s.stp L).q = u.q := by rw [← hu]; rfl
      rw [← this]; exact hn
    · obtain rfl : k = L + t := by omega
      exact hmost j (by omega)

/-- Of lone heaps in order, none above the most. -/
theorem runQ_rise (W : List Int) (hs : ∀ i j, i ≤ j → j < W.length → W.getD i 0 ≤ W.getD j 0) (hn : ∀ k, k < W.length → 0 ≤ W.getD k 0 ∧ W.getD k 0 ≤ big) (t : Nat) (ht : t + 1 ≤ W.length) : QS W.length t (2 * t) (runQ W t) := by
  induction t with
  | zero => exact ⟨hs, fun i h => by omega, fun k h => hn k h, fun i j _ h => by omega, fun j h => by omega⟩
  | succ t ih => exact (ih (by omega)).stp (runQ_ok W t (by omega)).1 (by omega)

/-- In which heap lone heap i lies behind t joins. -/
def anc (W : List Int) (i : Nat) : Nat → Nat
  | 0 => i
  | t + 1 => if anc W i t = (runQ W t).pk W.length ∨ anc W i t = ((runQ W t).adv W.length).pk W.length then W.length + t else anc W i t
/-- How many joins it has gone through. -/
def dpt (W : List Int) (i : Nat) : Nat → Nat
  | 0 => 0
  | t + 1 => if anc W i t = (runQ W t).pk W.length ∨ anc W i t = ((runQ W t).adv W.length).pk W.length then dpt W i t + 1 else dpt W i t

/-- It lies in a heap that is there, and was not taken. -/
theorem anc_ok (W : List Int) {i : Nat} (hi : i < W.length) (t : Nat) (ht : t + 1 ≤ W.length) : anc W i t < W.length + t ∧ anc W i t ∉ (runQ W t).q := by
  induction t with
  | zero => exact ⟨hi, by simp [runQ, Q.start]⟩
  | succ t ih =>
    obtain ⟨h1, h2⟩ := ih (by omega)
    have hq := (runQ_ok W t (by omega)).1
    obtain ⟨q1, -, e⟩ := hq.stp (by omega)
    have e' : (runQ W (t + 1)).q = (runQ W t).q ++ [(runQ W t).pk W.length, ((runQ W t).adv W.length).pk W.length] := e
    have hlt : ∀ k, k ∈ (runQ W (t + 1)).q → k < W.length + t := by
      intro k hk
      obtain ⟨j, hj, rfl⟩ := List.mem_iff_getElem.1 hk
      have hj' : j < 2 * (t + 1) := by rw [← q1.qlen]; exact hj
      have := q1.lt j hj'
      rw [List.getD_eq_getElem?_getD, List.getElem?_eq_getElem (show j < ((runQ W t).stp W.length).q.length from hj)] at this
      change (runQ W (t + 1)).q[j] < _ at this
      omega
    unfold anc
    split
    · exact ⟨by omega, fun hk => by have := hlt _ hk; omega⟩
    · rename_i c
      refine ⟨by omega, ?_⟩
      rw [e', List.mem_append]
      rintro (x | x)
      · exact h2 x
      · simp only [List.mem_cons, List.not_mem_nil, or_false] at x
        exact c x

theorem runQ_pre (W : List Int) : ∀ t n, t + n + 1 ≤ W.length → ∃ r, (runQ W (t + n)).q = (runQ W t).q ++ r := by
  intro t n
  induction n with
  | zero => exact fun _ => ⟨[], by simp⟩
  | succ n ih =>
    intro h
    obtain ⟨r, hr⟩ := ih (by omega)
    obtain ⟨-, -, e⟩ := (runQ_ok W (t + n) (by omega)).1.stp (by omega)
    have e' : (runQ W (t + n + 1)).q = _ := e
    exact ⟨_, by rw [← Nat.add_assoc, e', hr, List.append_assoc]⟩

/-- The two that are taken at join t go into heap L + t. -/
theorem par_pk (W : List Int) (t : Nat) (ht : t + 1 < W.length) : par W ((runQ W t).pk W.length) = W.length + t ∧ par W (((runQ W t).adv W.length).pk W.length) = W.length + t ∧
    (runQ W t).pk W.length < 2 * (W.length - 1) ∧ ((runQ W t).adv W.length).pk W.length < 2 * (W.length - 1) := by
  have hq := (runQ_ok W t (by omega)).1
  obtain ⟨q1, -, e⟩ := hq.stp (by omega)
  have e' : (runQ W (t + 1)).q = (runQ W t).q ++ [(runQ W t).pk W.length, ((runQ W t).adv W.length).pk W.length] := e
  obtain ⟨r, hr⟩ := runQ_pre W (t + 1) (W.length - 1 - (t + 1)) (by omega)
  rw [show t + 1 + (W.length - 1 - (t + 1)) = W.length - 1 by omega] at hr
  obtain ⟨h1, h2, h3, -⟩ := ordQ_all W (by omega)
  have ho : ordQ W = (runQ W t).q ++ ((runQ W t).pk W.length :: ((runQ W t).adv W.length).pk W.length :: r) := by
    unfold ordQ; rw [hr, e']; simp
  have hl := hq.qlen
  generalize (runQ W t).pk W.length = x at *
  generalize ((runQ W t).adv W.length).pk W.length = y at *
  have hx : (ordQ W).idxOf x = 2 * t := by
    have : (ordQ W)[2 * t]? = some x := by rw [ho, List.getElem?_append_right (by omega), hl]; simp
    obtain ⟨hlt, hg⟩ := List.getElem?_eq_some_iff.1 this
    rw [← hg]; exact List.Nodup.idxOf_getElem h2 _ hlt
  have hy : (ordQ W).idxOf y = 2 * t + 1 := by
    have : (ordQ W)[2 * t + 1]? = some y := by rw [ho, List.getElem?_append_right (by omega), hl]; simp [show 2 * t + 1 - 2 * t = 1 by omega]
    obtain ⟨hlt, hg⟩ := List.getElem?_eq_some_iff.1 this
    rw [← hg]; exact List.Nodup.idxOf_getElem h2 _ hlt
  refine ⟨by unfold par; omega, by unfold par; omega, ?_, ?_⟩
  · rw [← h3, ho]; simp
  · rw [← h3, ho]; simp

/-- Joins gone through, and those above. -/
theorem dpt_bel {W : List Int} {bel : Nat → Nat} (hB : Bel W bel) {i : Nat} (t : Nat) (ht : t + 1 ≤ W.length) : dpt W i t + bel (anc W i t) = bel i := by
  induction t with
  | zero => simp [dpt, anc]
  | succ t ih =>
    have h := ih (by omega)
    obtain ⟨p1, p2, l1, l2⟩ := par_pk W t (by omega)
    rw [dpt, anc]
    split
    · rename_i c
      have : bel (anc W i t) = bel (W.length + t) + 1 := by
        rcases c with c | c
        · rw [c, hB.up _ l1, p1]
        · rw [c, hB.up _ l2, p2]
      omega
    · exact h

/-- Behind all joins: as deep as it lies. -/
theorem dpt_all {W : List Int} {bel : Nat → Nat} (hB : Bel W bel) {i : Nat} (hi : i < W.length) : dpt W i (W.length - 1) = bel i := by
  have h := dpt_bel hB (i := i) (W.length - 1) (by omega)
  obtain ⟨a1, a2⟩ := anc_ok W hi (W.length - 1) (by omega)
  have h3 := (ordQ_all W (by omega)).2.2.1 (anc W i (W.length - 1))
  have : ¬ anc W i (W.length - 1) < 2 * (W.length - 1) := fun c => a2 (h3.2 c)
  have e : anc W i (W.length - 1) = 2 * (W.length - 1) := by omega
  rw [e, hB.top] at h
  omega

end Go.Proofs.YtdidoecigkbffaaGreat.J

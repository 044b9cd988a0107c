/- Plain facts on heaps that are put together out of two rows: in which order they are taken, what comes of it. -/
import Derived.Test.YtdidoecigkbffaaGreatJC
namespace Go.Proofs.YtdidoecigkbffaaGreat.J

/-- Two counters, the weights, and what was taken, in order. -/
structure Q where
  a : Nat
  b : Nat
  W : List Int
  q : List Nat

def Q.pick (L : Nat) (s : Q) : Bool := pickB L s.a s.b s.W.length (fun k => s.W.getD k 0)
def Q.pk (L : Nat) (s : Q) : Nat := if s.pick L then s.a else s.b
def Q.adv (L : Nat) (s : Q) : Q := if s.pick L then ⟨s.a + 1, s.b, s.W, s.q ++ [s.a]⟩ else ⟨s.a, s.b + 1, s.W, s.q ++ [s.b]⟩
def Q.join (s : Q) (x y : Nat) : Q := ⟨s.a, s.b, s.W ++ [min (s.W.getD x 0 + s.W.getD y 0) big], s.q⟩
def Q.stp (L : Nat) (s : Q) : Q := ((s.adv L).adv L).join (s.pk L) ((s.adv L).pk L)
def Q.start (W : List Int) : Q := ⟨0, W.length, W, []⟩
def runQ (W : List Int) : Nat → Q
  | 0 => Q.start W
  | t + 1 => (runQ W t).stp W.length

/-- L lone heaps, t that were made, m that were taken. -/
structure QH (L t m : Nat) (s : Q) : Prop where
  ha : s.a ≤ L
  hb : L ≤ s.b
  hbt : s.b ≤ L + t
  sum : s.a + s.b = L + m
  len : s.W.length = L + t
  qlen : s.q.length = m
  mem : ∀ k, k ∈ s.q ↔ k < s.a ∨ (L ≤ k ∧ k < s.b)
  nd : s.q.Nodup
  inc : ∀ i j, i < j → j < m → (s.q.getD i 0 < L ↔ s.q.getD j 0 < L) → s.q.getD i 0 < s.q.getD j 0
  lt : ∀ j, j < m → s.q.getD j 0 < L + j / 2

theorem getD_snoc (l : List Nat) (x i : Nat) : (l ++ [x]).getD i 0 = if i < l.length then l.getD i 0 else if i = l.length then x else 0 := by
  simp only [List.getD_eq_getElem?_getD]
  by_cases h : i < l.length
  · rw [if_pos h, List.getElem?_append_left h]
  · rw [if_neg h, List.getElem?_append_right (by omega)]
    by_cases e : i = l.length
    · subst e; simp
    · rw [if_neg e, List.getElem?_eq_none (by simp; omega)]; rfl

theorem getD_mem (l : List Nat) (i : Nat) (h : i < l.length) : l.getD i 0 ∈ l := by simp [List.getD_eq_getElem?_getD, h]

variable {L t m : Nat} {s : Q}

theorem QH.pk_lt (h : QH L t m s) (hm : m < L + t) : s.pk L < L + t := by
  unfold Q.pk Q.pick pickB
  have := h.ha; have := h.hb; have := h.hbt; have := h.sum; have hl := h.len
  split
  · rename_i e
    simp only [decide_eq_true_eq] at e
    omega
  · rename_i e
    simp only [decide_eq_true_eq] at e
    rw [hl] at e
    by_cases h1 : s.a < L
    · have : s.b ≠ L + t := fun h2 => e ⟨h1, .inl h2⟩
      omega
    · omega

theorem QH.pk_new (h : QH L t m s) : s.pk L ∉ s.q := by
  rw [h.mem]
  unfold Q.pk Q.pick pickB
  have := h.ha; have := h.hb
  split
  · rename_i e
    simp only [decide_eq_true_eq] at e
    omega
  · omega

theorem QH.adv (h : QH L t m s) (hm : m < L + t) (ht : t ≤ m / 2) : QH L t (m + 1) (s.adv L) ∧ (s.adv L).q = s.q ++ [s.pk L] := by
  have hpl := h.pk_lt hm
  have hpn := h.pk_new
  have ha := h.ha; have hb := h.hb; have hbt := h.hbt; have hsum := h.sum; have hlen := h.len; have hql := h.qlen
  have hq : (s.adv L).q = s.q ++ [s.pk L] := by unfold Q.adv Q.pk; split <;> rfl
  refine ⟨?_, hq⟩
  have hmem : ∀ k, k ∈ (s.adv L).q ↔ k < (s.adv L).a ∨ (L ≤ k ∧ k < (s.adv L).b) := by
    intro k
    rw [hq, List.mem_append, h.mem, List.mem_singleton]
    unfold Q.adv Q.pk
    split
    · rename_i e
      unfold Q.pick pickB at e
      simp only [decide_eq_true_eq] at e
      show _ ↔ k < s.a + 1 ∨ (L ≤ k ∧ k < s.b)
      omega
    · show _ ↔ k < s.a ∨ (L ≤ k ∧ k < s.b + 1)
      omega
  refine ⟨?_, ?_, ?_, ?_, ?_, ?_, hmem, ?_, ?_, ?_⟩
  · unfold Q.adv
    split
    · rename_i e
      unfold Q.pick pickB at e
      simp only [decide_eq_true_eq] at e
      show s.a + 1 ≤ L
      omega
    · exact ha
  · unfold Q.adv; split
    · exact hb
    · show L ≤ s.b + 1; omega
  · unfold Q.pk at hpl
    unfold Q.adv
    split
    · exact hbt
    · rename_i e
      rw [if_neg e] at hpl
      show s.b + 1 ≤ L + t; omega
  · unfold Q.adv; split
    · show s.a + 1 + s.b = _; omega
    · show s.a + (s.b + 1) = _; omega
  · unfold Q.adv; split <;> exact hlen
  · rw [hq]; simp [hql]
  · rw [hq, List.nodup_append]
    refine ⟨h.nd, by simp, ?_⟩
    intro a ha b hb
    simp only [List.mem_singleton] at hb
    subst hb
    exact fun e => hpn (e ▸ ha)
  · intro i j hij hj hlt
    rw [hq, getD_snoc, getD_snoc, hql] at hlt ⊢
    by_cases hjm : j < m
    · rw [if_pos (by omega), if_pos hjm] at hlt ⊢
      exact h.inc i j hij hjm hlt
    · obtain rfl : j = m := by omega
      rw [if_pos hij, if_neg (by omega), if_pos rfl] at hlt ⊢
      have hi := (h.mem _).1 (getD_mem s.q i (by omega))
      unfold Q.pk at hlt ⊢
      split at hlt
      · rename_i e
        rw [if_pos e]
        unfold Q.pick pickB at e
        simp only [decide_eq_true_eq] at e
        omega
      · rename_i e
        rw [if_neg e]
        omega
  · intro j hj
    rw [hq, getD_snoc, hql]
    by_cases hjm : j < m
    · rw [if_pos hjm]; exact h.lt j hjm
    · obtain rfl : j = m := by omega
      rw [if_neg (by omega), if_pos rfl]; omega

theorem QH.start (W : List Int) : QH W.length 0 0 (Q.start W) :=
  ⟨Nat.zero_le _, Nat.le_refl _, Nat.le_refl _, by simp [Q.start], rfl, rfl, fun k => by simp [Q.start], by simp [Q.start], fun i j _ h => by omega, fun j h => by omega⟩

theorem QH.stp (h : QH L t (2 * t) s) (ht : t + 1 < L) : QH L (t + 1) (2 * (t + 1)) (s.stp L) ∧ (s.stp L).b + 1 ≤ L + (t + 1) ∧ (s.stp L).q = s.q ++ [s.pk L, (s.adv L).pk L] := by
  obtain ⟨h1, e1⟩ := h.adv (by omega) (by omega)
  obtain ⟨h2, e2⟩ := h1.adv (by omega) (by omega)
  have hq : (s.stp L).q = s.q ++ [s.pk L, (s.adv L).pk L] := by
    show ((s.adv L).adv L).q = _
    rw [e2, e1, List.append_assoc]; rfl
  refine ⟨⟨h2.ha, h2.hb, Nat.le_trans h2.hbt (by omega), h2.sum, ?_, h2.qlen, h2.mem, h2.nd, h2.inc, h2.lt⟩, ?_, hq⟩
  · show (((s.adv L).adv L).W ++ _).length = _
    rw [List.length_append, h2.len]; rfl
  · show ((s.adv L).adv L).b + 1 ≤ _
    have := h2.hbt; omega

theorem runQ_ok (W : List Int) (t : Nat) (ht : t + 1 ≤ W.length) : QH W.length t (2 * t) (runQ W t) ∧ (0 < t → (runQ W t).b + 1 ≤ W.length + t) := by
  induction t with
  | zero => exact ⟨QH.start W, fun h => by omega⟩
  | succ t ih =>
    obtain ⟨h1, -⟩ := ih (by omega)
    obtain ⟨h2, h3, -⟩ := h1.stp (by omega)
    exact ⟨h2, fun _ => h3⟩

/-- The order in which heaps are taken, of L that weigh so. -/
def ordQ (W : List Int) : List Nat := (runQ W (W.length - 1)).q

theorem ordQ_all (W : List Int) (h : 0 < W.length) : (ordQ W).length = 2 * (W.length - 1) ∧ (ordQ W).Nodup ∧ (∀ k, k ∈ ordQ W ↔ k < 2 * (W.length - 1)) ∧
    (∀ i j, i < j → j < 2 * (W.length - 1) → ((ordQ W).getD i 0 < W.length ↔ (ordQ W).getD j 0 < W.length) → (ordQ W).getD i 0 < (ordQ W).getD j 0) ∧ (∀ j, j < 2 * (W.length - 1) → (ordQ W).getD j 0 < W.length + j / 2) := by
  obtain ⟨h1, h2⟩ := runQ_ok W (W.length - 1) (by omega)
  have ha := h1.ha; have hb := h1.hb; have hs := h1.sum; have hbt := h1.hbt
  refine ⟨h1.qlen, h1.nd, fun k => ?_, h1.inc, h1.lt⟩
  show k ∈ (runQ W (W.length - 1)).q ↔ _
  rw [h1.mem]
  by_cases e : W.length = 1
  · omega
  · have := h2 (by omega); omega

/-- The place of the heap that heap k was put into. -/
def par (W : List Int) (k : Nat) : Nat := W.length + (ordQ W).idxOf k / 2

variable {W : List Int}

theorem par_lt (h : 0 < W.length) {k : Nat} (hk : k < 2 * (W.length - 1)) : k < par W k ∧ W.length ≤ par W k ∧ par W k < 2 * W.length - 1 ∧ (ordQ W).idxOf k < 2 * (W.length - 1) ∧ (ordQ W).getD ((ordQ W).idxOf k) 0 = k := by
  obtain ⟨h1, h2, h3, h4, h5⟩ := ordQ_all W h
  have hm := (h3 k).2 hk
  have hi := List.idxOf_lt_length_of_mem hm
  rw [h1] at hi
  have hg : (ordQ W).getD ((ordQ W).idxOf k) 0 = k := by
    rw [List.getD_eq_getElem?_getD, List.getElem?_eq_getElem (by omega), List.getElem_idxOf]; rfl
  have := h5 _ hi
  rw [hg] at this
  unfold par
  exact ⟨this, by omega, by omega, hi, hg⟩

theorem idx_mono (h : 0 < W.length) {i k : Nat} (hik : i < k) (hk : k < 2 * (W.length - 1)) (hs : i < W.length ↔ k < W.length) : (ordQ W).idxOf i < (ordQ W).idxOf k := by
  obtain ⟨-, -, -, h4, -⟩ := ordQ_all W h
  obtain ⟨-, -, -, i1, i2⟩ := par_lt h (show i < 2 * (W.length - 1) by omega)
  obtain ⟨-, -, -, k1, k2⟩ := par_lt h hk
  rcases Nat.lt_trichotomy ((ordQ W).idxOf i) ((ordQ W).idxOf k) with e | e | e
  · exact e
  · rw [e, k2] at i2; omega
  · have := h4 _ _ e i1 (by rw [i2, k2]; exact hs.symm)
    rw [i2, k2] at this; omega

theorem par_mono (h : 0 < W.length) {i k : Nat} (hik : i ≤ k) (hk : k < 2 * (W.length - 1)) (hs : i < W.length ↔ k < W.length) : par W i ≤ par W k := by
  rcases Nat.eq_or_lt_of_le hik with rfl | e
  · exact Nat.le_refl _
  · have := idx_mono h e hk hs
    unfold par; omega

/-- How deep each heap lies below the last one. -/
structure Bel (W : List Int) (bel : Nat → Nat) : Prop where
  top : bel (2 * (W.length - 1)) = 0
  up : ∀ k, k < 2 * (W.length - 1) → bel k = bel (par W k) + 1

theorem Bel.mono {bel : Nat → Nat} (hB : Bel W bel) (h : 0 < W.length) : ∀ (n p r : Nat), 2 * W.length - p ≤ n → W.length ≤ p → p ≤ r → r ≤ 2 * (W.length - 1) → bel r ≤ bel p := by
  intro n
  induction n with
  | zero => intro p r h1 h2 h3 h4; omega
  | succ n ih =>
    intro p r h1 h2 h3 h4
    by_cases e : r = 2 * (W.length - 1)
    · rw [e, hB.top]; omega
    · rw [hB.up r (by omega), hB.up p (by omega)]
      have hp := par_lt h (show p < 2 * (W.length - 1) by omega)
      have hr := par_lt h (show r < 2 * (W.length - 1) by omega)
      have := ih (par W p) (par W r) (by omega) (by omega) (par_mono h h3 (by omega) (by omega)) (by omega)
      omega

/-- The lighter lone heap lies no less deep. -/
theorem Bel.lone {bel : Nat → Nat} (hB : Bel W bel) (h : 0 < W.length) {i k : Nat} (hik : i ≤ k) (hk : k < W.length) : bel k ≤ bel i := by
  by_cases e : W.length = 1
  · obtain rfl : i = k := by omega
    exact Nat.le_refl _
  · rw [hB.up i (by omega), hB.up k (by omega)]
    have hr := par_lt h (show k < 2 * (W.length - 1) by omega)
    have hp := par_lt h (show i < 2 * (W.length - 1) by omega)
    have := hB.mono h (2 * W.length) (par W i) (par W k) (by omega) (by omega) (par_mono h hik (by omega) (by omega)) (by omega)
    omega

theorem Bel.deep {bel : Nat → Nat} (hB : Bel W bel) (h : 0 < W.length) : ∀ (n p : Nat), 2 * W.length - p ≤ n → p ≤ 2 * (W.length - 1) → bel p + p ≤ 2 * (W.length - 1) := by
  intro n
  induction n with
  | zero => intro p h1 h2; omega
  | succ n ih =>
    intro p h1 h3
    by_cases e : p = 2 * (W.length - 1)
    · subst e; rw [hB.top]; omega
    · rw [hB.up p (by omega)]
      have hp := par_lt h (show p < 2 * (W.length - 1) by omega)
      have := ih (par W p) (by omega) (by omega)
      omega

theorem Bel.small {bel : Nat → Nat} (hB : Bel W bel) (h : 0 < W.length) {k : Nat} (hk : k < W.length) : bel k + 1 ≤ W.length := by
  by_cases e : W.length = 1
  · obtain rfl : k = 0 := by omega
    have := hB.top
    rw [e] at this
    simp at this
    omega
  · rw [hB.up k (by omega)]
    have hp := par_lt h (show k < 2 * (W.length - 1) by omega)
    have := hB.deep h (2 * W.length) (par W k) (by omega) (by omega)
    omega

theorem Bel.pos {bel : Nat → Nat} (hB : Bel W bel) {k : Nat} (hk : k < 2 * (W.length - 1)) : 0 < bel k := by rw [hB.up k hk]; omega

theorem Bel.uniq {bel bel' : Nat → Nat} (hB : Bel W bel) (hB' : Bel W bel') (h : 0 < W.length) : ∀ (n p : Nat), 2 * W.length - p ≤ n → p ≤ 2 * (W.length - 1) → bel p = bel' p := by
  intro n
  induction n with
  | zero => intro p h1 h2; omega
  | succ n ih =>
    intro p h1 h3
    by_cases e : p = 2 * (W.length - 1)
    · subst e; rw [hB.top, hB'.top]
    · rw [hB.up p (by omega), hB'.up p (by omega)]
      have hp := par_lt h (show p < 2 * (W.length - 1) by omega)
      rw [ih (par W p) (by omega) (by omega)]

theorem sum_pairs (F G : Nat → Nat) (q : List Nat) (n : Nat) (hl : q.length = 2 * n) (h : ∀ i, i < n → F (q.getD (2 * i) 0) + F (q.getD (2 * i + 1) 0) = G i) : (q.map F).sum = ((List.range n).map G).sum := by
  induction n generalizing q with
  | zero =>
    have : q = [] := List.eq_nil_of_length_eq_zero (by omega)
    subst this; rfl
  | succ n ih =>
    have e : q = q.take (2 * n) ++ [q.getD (2 * n) 0, q.getD (2 * n + 1) 0] := by
      apply List.ext_getElem?
      intro k
      by_cases h1 : k < 2 * n
      · rw [List.getElem?_append_left (by simp; omega), List.getElem?_take_of_lt h1]
      · rw [List.getElem?_append_right (by simp; omega)]
        have e2 : (q.take (2 * n)).length = 2 * n := by simp; omega
        rw [e2]
        by_cases h2 : k = 2 * n
        · subst h2; simp [List.getD_eq_getElem?_getD, hl]
        · by_cases h3 : k = 2 * n + 1
          · subst h3
            rw [show 2 * n + 1 - 2 * n = 1 by omega]
            simp [List.getD_eq_getElem?_getD]; rw [List.getElem?_eq_getElem (by omega)]; simp
          · rw [List.getElem?_eq_none (by omega), List.getElem?_eq_none (by simp; omega)]
    have ih' := ih (q.take (2 * n)) (by simp; omega) (fun i hi => by
      have := h i (by omega)
      simpa [List.getD_eq_getElem?_getD, List.getElem?_take, show 2 * i < 2 * n by omega, show 2 * i + 1 < 2 * n by omega] using this)
    have hn := h n (by omega)
    rw [List.range_succ, List.map_append, List.sum_append, ← ih']
    conv => lhs; rw [e]
    rw [List.map_append, List.sum_append]
    simp only [List.map_cons, List.map_nil, List.sum_cons, List.sum_nil]
    omega

/-- All codes that could be are somebody's. -/
theorem Bel.kraft {bel : Nat → Nat} (hB : Bel W bel) (h : 0 < W.length) (M : Nat) (hM : 2 * (W.length - 1) ≤ M) : ((List.range W.length).map fun k => 2 ^ (M - bel k)).sum = 2 ^ M := by
  obtain ⟨h1, h2, h3, h4, h5⟩ := ordQ_all W h
  obtain ⟨n, hn⟩ : ∃ n, W.length = n + 1 := ⟨W.length - 1, by omega⟩
  have hF : ∀ i, i < n → 2 ^ (M - bel ((ordQ W).getD (2 * i) 0)) + 2 ^ (M - bel ((ordQ W).getD (2 * i + 1) 0)) = 2 ^ (M - bel (W.length + i)) := by
    intro i hi
    have hdx : ∀ j, j < 2 * n → bel ((ordQ W).getD j 0) = bel (W.length + j / 2) + 1 := by
      intro j hj
      have hm := getD_mem (ordQ W) j (by omega)
      have hk := (h3 _).1 hm
      rw [hB.up _ hk]
      have e : (ordQ W).idxOf ((ordQ W).getD j 0) = j := by
        have hjl : j < (ordQ W).length := by omega
        rw [List.getD_eq_getElem?_getD, List.getElem?_eq_getElem hjl]
        exact List.Nodup.idxOf_getElem h2 j hjl
      unfold par
      rw [e]
    rw [hdx (2 * i) (by omega), hdx (2 * i + 1) (by omega), show 2 * i / 2 = i by omega, show (2 * i + 1) / 2 = i by omega]
    have hd := hB.deep h (2 * W.length) (W.length + i) (by omega) (by omega)
    rw [show M - bel (W.length + i) = (M - (bel (W.length + i) + 1)) + 1 by omega, Nat.pow_succ]
    omega
  have hs := sum_pairs (fun k => 2 ^ (M - bel k)) (fun i => 2 ^ (M - bel (W.length + i))) (ordQ W) n (by omega) hF
  have hp : (ordQ W).Perm (List.range (2 * n)) := (List.perm_ext_iff_of_nodup h2 List.nodup_range).2 fun k => by rw [h3, List.mem_range]; omega
  rw [(hp.map _).sum_nat] at hs
  cases n with
  | zero =>
    rw [hn]
    have := hB.top
    rw [hn] at this
    simp at this
    simp [this]
  | succ n =>
    have e1 : 2 * (n + 1) = W.length + n := by omega
    rw [e1, List.range_add, List.map_append, List.sum_append, List.map_map, List.range_succ, List.map_append, List.sum_append] at hs
    have htop := hB.top
    rw [hn, show 2 * (n + 1 + 1 - 1) = W.length + n by omega] at htop
    have e2 : ((fun k => 2 ^ (M - bel k)) ∘ fun x => W.length + x) = fun i => 2 ^ (M - bel (W.length + i)) := rfl
    rw [e2] at hs
    simp only [List.map_cons, List.map_nil, List.sum_cons, List.sum_nil, htop, Nat.sub_zero] at hs
    omega

end Go.Proofs.YtdidoecigkbffaaGreat.J

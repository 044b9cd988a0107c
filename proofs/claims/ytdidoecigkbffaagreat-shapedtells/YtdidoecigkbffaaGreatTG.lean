/- Plain: heaps taken one by one, the lightest first, out of a list in whatever order: the same as out of two rows. -/
import Derived.Test.YtdidoecigkbffaaGreatTA
namespace Go.Proofs.YtdidoecigkbffaaGreat.J

variable {L t m : Nat} {s : Q}

/-- The list has all heaps that lie there, each once. -/
structure Lies (L t : Nat) (s : Q) (l : List Nat) : Prop where
  mem : ∀ k, k ∈ l ↔ k < L + t ∧ k ∉ s.q
  nd : l.Nodup

/-- The lightest of them (of those that weigh the same the one with the least number) is what the two rows give. -/
theorem least_pick (h : QS L t m s) (hq : QH L t m s) (h2 : 2 * t ≤ m) (hm : m < L + t) (num : Nat → Nat) (hnum : ∀ i j, i < j → j < L + t → s.wt i = s.wt j → num i < num j) {l : List Nat} (hl : Lies L t s l)
    {x : Nat} (hx : x ∈ l) (hmin : ∀ y ∈ l, s.wt x < s.wt y ∨ (s.wt x = s.wt y ∧ num x ≤ num y)) : x = s.pk L := by
  apply Decidable.byContradiction
  intro hne
  obtain ⟨a1, a2⟩ := (hl.mem x).1 hx
  have b := hmin _ ((hl.mem _).2 ⟨hq.pk_lt hm, hq.pk_new⟩)
  rcases h.least_num hq h2 num hnum a1 a2 hne with c | ⟨c, d⟩ <;> omega

/-- One taken out. -/
theorem Lies.adv {l : List Nat} (hl : Lies L t s l) (hq : QH L t m s) (hm : m < L + t) (ht : t ≤ m / 2) : Lies L t (s.adv L) (l.erase (s.pk L)) := by
  obtain ⟨-, e⟩ := hq.adv hm ht
  refine ⟨fun k => ?_, hl.nd.erase _⟩
  rw [hl.nd.mem_erase_iff, hl.mem, e, List.mem_append, List.mem_singleton]
  constructor
  · rintro ⟨a, b, c⟩; exact ⟨b, fun h => h.elim c a⟩
  · rintro ⟨a, b⟩; exact ⟨fun h => b (.inr h), a, fun h => b (.inl h)⟩

/-- Two taken out, one put behind. -/
theorem Lies.stp {l : List Nat} (hl : Lies L t s l) (hq : QH L t (2 * t) s) (ht : t + 1 < L) : Lies L (t + 1) (s.stp L) ((l.erase (s.pk L)).erase ((s.adv L).pk L) ++ [L + t]) := by
  obtain ⟨q1, -⟩ := hq.adv (by omega) (by omega)
  have l1 := hl.adv hq (by omega) (by omega)
  have l2 := l1.adv q1 (by omega) (by omega)
  obtain ⟨q2, -⟩ := q1.adv (by omega) (by omega)
  have hqq : (s.stp L).q = ((s.adv L).adv L).q := rfl
  have hno : L + t ∉ (l.erase (s.pk L)).erase ((s.adv L).pk L) := fun h => by have := ((l2.mem _).1 h).1; omega
  have hnq : L + t ∉ ((s.adv L).adv L).q := fun h => by
    have := (q2.mem _).1 h
    have := q2.ha; have := q2.hbt
    omega
  refine ⟨fun k => ?_, ?_⟩
  · rw [List.mem_append, l2.mem, hqq, List.mem_singleton]
    constructor
    · rintro (⟨a, b⟩ | rfl)
      · exact ⟨by omega, b⟩
      · exact ⟨by omega, hnq⟩
    · rintro ⟨a, b⟩
      rcases Nat.lt_or_ge k (L + t) with c | c
      · exact .inl ⟨c, b⟩
      · exact .inr (by omega)
  · rw [List.nodup_append]
    refine ⟨l2.nd, by simp, fun a ha b hb => ?_⟩
    rw [List.mem_singleton] at hb
    subst hb
    exact fun e => hno (e ▸ ha)

theorem Lies.start (W : List Int) {l : List Nat} (h : ∀ k, k ∈ l ↔ k < W.length) (hn : l.Nodup) : Lies W.length 0 (runQ W 0) l :=
  ⟨fun k => by rw [h]; simp [runQ, Q.start], hn⟩

theorem Lies.len {l : List Nat} (hl : Lies L t s l) (hq : QH L t (2 * t) s) (ht : t ≤ L) : l.length = L - t := by
  have hp : (l ++ s.q).Perm (List.range (L + t)) := by
    apply (List.perm_ext_iff_of_nodup _ List.nodup_range).2
    · intro k
      rw [List.mem_append, hl.mem, List.mem_range]
      have := hq.mem k; have := hq.ha; have := hq.hb; have := hq.hbt
      constructor
      · rintro (h | h)
        · exact h.1
        · have := (hq.mem k).1 h; omega
      · intro h
        by_cases c : k ∈ s.q
        · exact .inr c
        · exact .inl ⟨h, c⟩
    · rw [List.nodup_append]
      exact ⟨hl.nd, hq.nd, fun a ha b hb e => ((hl.mem a).1 ha).2 (e ▸ hb)⟩
  have := hp.length_eq
  rw [List.length_append, hq.qlen, List.length_range] at this
  omega

/-- The lone heaps in heap k behind t joins. -/
def within (W : List Int) (t k : Nat) : List Nat := (List.range W.length).filter fun i => decide (anc W i t = k)

theorem within_mem {W : List Int} {t k i : Nat} : i ∈ within W t k ↔ i < W.length ∧ anc W i t = k := by simp [within]

/-- In the heap that is put together lie those of both. -/
theorem within_new (W : List Int) {t : Nat} (ht : t + 1 < W.length) {i : Nat} : i ∈ within W (t + 1) (W.length + t) ↔ i ∈ within W t ((runQ W t).pk W.length) ∨ i ∈ within W t (((runQ W t).adv W.length).pk W.length) := by
  rw [within_mem, within_mem, within_mem, anc]
  constructor
  · rintro ⟨a, b⟩
    split at b
    · rename_i c
      rcases c with c | c
      · exact .inl ⟨a, c⟩
      · exact .inr ⟨a, c⟩
    · have := (anc_ok W a t (by omega)).1; omega
  · rintro (⟨a, b⟩ | ⟨a, b⟩)
    · exact ⟨a, by rw [if_pos (.inl b)]⟩
    · exact ⟨a, by rw [if_pos (.inr b)]⟩

/-- In all others what lay in them. -/
theorem within_old (W : List Int) {t k : Nat} (hk : k < W.length + t) (h1 : k ≠ (runQ W t).pk W.length) (h2 : k ≠ ((runQ W t).adv W.length).pk W.length) : within W (t + 1) k = within W t k := by
  unfold within
  apply List.filter_congr
  intro i _
  rw [anc, decide_eq_decide]
  split
  · rename_i c
    constructor
    · intro e; omega
    · intro e; rcases c with c | c <;> omega
  · exact Iff.rfl

/-- Those of both lie one join deeper, the others as deep. -/
theorem dpt_step (W : List Int) {t : Nat} (ht : t + 1 < W.length) {i : Nat} (hi : i < W.length) : dpt W i (t + 1) = dpt W i t + if i ∈ within W (t + 1) (W.length + t) then 1 else 0 := by
  rw [dpt]
  by_cases c : anc W i t = (runQ W t).pk W.length ∨ anc W i t = ((runQ W t).adv W.length).pk W.length
  · rw [if_pos c, if_pos ((within_new W ht).2 (c.imp (fun h => within_mem.2 ⟨hi, h⟩) (fun h => within_mem.2 ⟨hi, h⟩)))]
  · rw [if_neg c, if_neg (fun h => c (((within_new W ht).1 h).imp (fun h => (within_mem.1 h).2) (fun h => (within_mem.1 h).2)))]
    rfl

end Go.Proofs.YtdidoecigkbffaaGreat.J

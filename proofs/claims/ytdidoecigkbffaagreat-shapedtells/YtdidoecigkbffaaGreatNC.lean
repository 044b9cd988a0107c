/- Plain facts: what all cost is how many digits all codes have. -/
import Derived.Test.YtdidoecigkbffaaGreatNB
namespace Go.Proofs.YtdidoecigkbffaaGreat
open S J

theorem nxt_ne (p c : List Bool) : nxt p c ≠ [] ↔ p.length < c.length ∧ c.take p.length = p := by
  unfold nxt nxtK
  split
  · rename_i h; simp [h]
  · rename_i h; simp [h]
theorem nxt_one (p c : List Bool) : (nxt p c).length = if p.length < c.length ∧ c.take p.length = p then 1 else 0 := by
  unfold nxt nxtK
  split <;> rfl

theorem sum_ite {β : Type} (q : β → Prop) [DecidablePred q] (l : List β) : (l.map fun x => if q x then 1 else 0).sum = (l.filter fun x => decide (q x)).length := by
  induction l with
  | nil => rfl
  | cons x l ih =>
    rw [List.map_cons, List.sum_cons, List.filter_cons, ih]
    by_cases h : q x
    · simp [h]; omega
    · simp [h]

theorem sum_nxt (ks : List (List Bool)) (c : List Bool) (hnd : ks.Nodup) (h : ∀ p, nxt p c ≠ [] → p ∈ ks) : (ks.map fun p => (nxt p c).length).sum = c.length := by
  have e : (ks.map fun p => (nxt p c).length) = ks.map fun p => if p.length < c.length ∧ c.take p.length = p then 1 else 0 := List.map_congr_left fun p _ => nxt_one p c
  rw [e, sum_ite]
  have hn2 : ((List.range c.length).map fun k => c.take k).Nodup := by
    rw [List.Nodup, List.pairwise_map]
    refine List.Pairwise.imp_of_mem ?_ List.nodup_range
    intro a b ha hb hab e
    have := congrArg List.length e
    simp only [List.length_take] at this
    have := List.mem_range.1 ha
    have := List.mem_range.1 hb
    omega
  have hp : (ks.filter fun p => decide (p.length < c.length ∧ c.take p.length = p)).Perm ((List.range c.length).map fun k => c.take k) := by
    refine (List.perm_ext_iff_of_nodup (hnd.filter _) hn2).2 fun p => ?_
    rw [List.mem_filter, List.mem_map]
    constructor
    · rintro ⟨-, h2⟩
      have h3 : p.length < c.length ∧ c.take p.length = p := by simpa using h2
      exact ⟨p.length, List.mem_range.2 h3.1, h3.2⟩
    · rintro ⟨k, hk, rfl⟩
      have hk' := List.mem_range.1 hk
      have hl : (c.take k).length = k := by simp; omega
      have h3 : (c.take k).length < c.length ∧ c.take (c.take k).length = c.take k := by rw [hl]; exact ⟨hk', rfl⟩
      exact ⟨h _ ((nxt_ne _ _).2 h3), by simpa using h3⟩
  rw [hp.length_eq]; simp

theorem cost_total (ks : List (List Bool)) (hnd : ks.Nodup) : ∀ cs : List (List Bool), (∀ p, partB cs p ≠ [] → p ∈ ks) → (ks.map fun p => (partB cs p).length).sum = (cs.map List.length).sum := by
  intro cs
  induction cs with
  | nil =>
    intro _
    have e : ∀ l : List (List Bool), (l.map fun p => (partB [] p).length).sum = 0 := by
      intro l
      induction l with
      | nil => rfl
      | cons k l ih => rw [List.map_cons, List.sum_cons, ih]; rfl
    exact e ks
  | cons c cs ih =>
    intro h
    have e1 : ∀ p, partB (c :: cs) p = nxt p c ++ partB cs p := fun p => by unfold partB; rw [List.flatMap_cons]
    have h1 := ih fun p hp => h p (by rw [e1]; simp [hp])
    have h2 := sum_nxt ks c hnd fun p hp => h p (by rw [e1]; simp [hp])
    have e2 : ∀ l : List (List Bool), (l.map fun p => (partB (c :: cs) p).length).sum = (l.map fun p => (nxt p c).length).sum + (l.map fun p => (partB cs p).length).sum := by
      intro l
      induction l with
      | nil => rfl
      | cons p l ih2 =>
        rw [List.map_cons, List.map_cons, List.map_cons, List.sum_cons, List.sum_cons, List.sum_cons, ih2, e1, List.length_append]
        omega
    rw [e2, h1, h2, List.map_cons, List.sum_cons]

theorem rest_all (ks : List (List Bool)) (F : List Bool → Nat) : rest ks F (fun _ => true) = (ks.map F).sum := by
  unfold rest
  rw [List.filter_eq_self.2 (fun _ _ => rfl)]

end Go.Proofs.YtdidoecigkbffaaGreat

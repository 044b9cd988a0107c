/- Plain facts: the depths of symbols leave no code over. -/
import Derived.Test.YtdidoecigkbffaaGreatCA
namespace Go.Proofs.YtdidoecigkbffaaGreat
open S J

/-- The symbols ahead of k that have a depth. -/
def symL (dep : Nat → Nat) (k : Nat) : List Int := ((List.range k).filter fun c => decide (0 < dep c)).map fun c : Nat => (c : Int)

theorem symL_succ (dep : Nat → Nat) (k : Nat) : symL dep (k + 1) = symL dep k ++ if 0 < dep k then [(k : Int)] else [] := by
  unfold symL
  rw [List.range_succ, List.filter_append, List.map_append]
  congr 1
  by_cases h : 0 < dep k
  · rw [if_pos h, List.filter_cons, if_pos (by simpa using h)]; rfl
  · rw [if_neg h, List.filter_cons, if_neg (by simpa using h)]; rfl
theorem symL_length (dep : Nat → Nat) (k : Nat) : (symL dep k).length ≤ k := by
  unfold symL
  rw [List.length_map]
  exact Nat.le_trans (List.length_filter_le _ _) (by rw [List.length_range]; exact Nat.le_refl _)
theorem symL_mem {dep : Nat → Nat} {k : Nat} {x : Int} : x ∈ symL dep k ↔ ∃ c : Nat, x = (c : Int) ∧ c < k ∧ 0 < dep c := by
  unfold symL
  rw [List.mem_map]
  constructor
  · rintro ⟨c, hc, rfl⟩
    rw [List.mem_filter, List.mem_range] at hc
    exact ⟨c, rfl, hc.1, by simpa using hc.2⟩
  · rintro ⟨c, rfl, h1, h2⟩
    exact ⟨c, by rw [List.mem_filter, List.mem_range]; exact ⟨h1, by simpa using h2⟩, rfl⟩
theorem nodup_cast {l : List Nat} (h : l.Nodup) : (l.map fun c : Nat => (c : Int)).Nodup := by
  rw [List.Nodup, List.pairwise_map]
  exact h.imp fun h1 h2 => h1 (by omega)
theorem symL_nodup (dep : Nat → Nat) (k : Nat) : (symL dep k).Nodup := nodup_cast (List.nodup_range.filter _)

theorem loneL_syms (xs : List Int) (k : Nat) : (loneL xs k).map Hp.s = ((List.range k).filter fun c => decide (0 < xs.getD c 0)).map fun c : Nat => (c : Int) := by
  unfold loneL
  rw [List.map_map]; rfl

structure Ys (xs : List Int) (n : Nat) (ys : List Hp) : Prop where
  same : Same Hp.w (loneL xs n) ys
  pw : ys.Pairwise (fun a b => a.w ≤ b.w)

variable {xs : List Int} {n : Nat} {ys : List Hp}

theorem Ys.perm (h : Ys xs n ys) : (loneL xs n).Perm ys := same_perm h.same
theorem Ys.nodup (h : Ys xs n ys) : (ys.map Hp.s).Nodup := by
  have hp : ((loneL xs n).map Hp.s).Perm (ys.map Hp.s) := h.perm.map _
  refine (hp.nodup_iff).1 ?_
  rw [loneL_syms]
  exact nodup_cast (List.nodup_range.filter _)
theorem Ys.sym (h : Ys xs n ys) {y : Hp} (hy : y ∈ ys) : ∃ c : Nat, y.s = (c : Int) ∧ c < n ∧ 0 < xs.getD c 0 ∧ y.w = min (xs.getD c 0) big := by
  have := h.perm.mem_iff.2 hy
  unfold loneL at this
  obtain ⟨c, hc, rfl⟩ := List.mem_map.1 this
  rw [List.mem_filter, List.mem_range] at hc
  exact ⟨c, rfl, hc.1, by simpa using hc.2, rfl⟩
theorem Ys.has (h : Ys xs n ys) {c : Nat} (hc : c < n) (hx : 0 < xs.getD c 0) : ∃ k, k < ys.length ∧ (ys.getD k default).s = (c : Int) ∧ (ys.getD k default).w = min (xs.getD c 0) big := by
  have hm : (⟨(c : Int), min (xs.getD c 0) big, 0⟩ : Hp) ∈ ys := by
    refine h.perm.mem_iff.1 ?_
    unfold loneL
    exact List.mem_map.2 ⟨c, by rw [List.mem_filter, List.mem_range]; exact ⟨hc, by simpa using hx⟩, rfl⟩
  obtain ⟨k, hk, e⟩ := List.getElem_of_mem hm
  refine ⟨k, hk, ?_, ?_⟩ <;> simp [List.getD_eq_getElem?_getD, hk, e]

theorem depN_at {b : Nat → Nat} (hnd : (ys.map Hp.s).Nodup) : ∀ K, K ≤ ys.length → ∀ k, k < K → ∀ c : Nat, (ys.getD k default).s = (c : Int) → depN ys b K c = b k := by
  intro K
  induction K with
  | zero => intro _ k hk; omega
  | succ K ih =>
    intro hK k hk c hc
    show (if (c : Int) = (ys.getD K default).s then b K else depN ys b K c) = b k
    by_cases e : k = K
    · subst e; rw [if_pos hc.symm]
    · rw [if_neg, ih (by omega) k (by omega) c hc]
      intro e2
      rw [← hc] at e2
      have hp := List.pairwise_iff_getElem.1 hnd k K (by simp; omega) (by simp; omega) (by omega)
      apply hp
      simp only [List.getElem_map]
      simp only [List.getD_eq_getElem?_getD, List.getElem?_eq_getElem (show k < ys.length by omega), List.getElem?_eq_getElem (show K < ys.length by omega), Option.getD_some] at e2
      exact e2

theorem depN_out {b : Nat → Nat} : ∀ K, ∀ c : Nat, (∀ k, k < K → (ys.getD k default).s ≠ (c : Int)) → depN ys b K c = 0 := by
  intro K
  induction K with
  | zero => intro c _; rfl
  | succ K ih =>
    intro c h
    show (if (c : Int) = (ys.getD K default).s then b K else depN ys b K c) = 0
    rw [if_neg (fun e => h K (by omega) e.symm)]
    exact ih c fun k hk => h k (by omega)

/-- The depths that counts have. -/
def depF (ys : List Hp) (c : Nat) : Nat := depN ys (bel (ys.map Hp.w)) ys.length c

theorem Ys.dep_at (h : Ys xs n ys) {k : Nat} (hk : k < ys.length) {c : Nat} (hc : (ys.getD k default).s = (c : Int)) : depF ys c = bel (ys.map Hp.w) k := depN_at h.nodup ys.length (Nat.le_refl _) k hk c hc
theorem Ys.dep_le (h : Ys xs n ys) (c : Nat) : depF ys c ≤ ys.length := by
  by_cases hc : ∃ k, k < ys.length ∧ (ys.getD k default).s = (c : Int)
  · obtain ⟨k, hk, e⟩ := hc
    rw [h.dep_at hk e]
    have := (bel_ok (ys.map Hp.w) (by simp; omega)).small (by simp; omega) (k := k) (by simpa using hk)
    simp at this
    omega
  · unfold depF
    rw [depN_out ys.length c (fun k hk e => hc ⟨k, hk, e⟩)]; exact Nat.zero_le _

/-- One symbol alone, or none, has no depth. -/
theorem Ys.few (h : Ys xs n ys) (hl : ys.length ≤ 1) (c : Nat) : depF ys c = 0 := by
  by_cases hc : ∃ k, k < ys.length ∧ (ys.getD k default).s = (c : Int)
  · obtain ⟨k, hk, e⟩ := hc
    obtain rfl : k = 0 := by omega
    rw [h.dep_at hk e]
    have := (bel_ok (ys.map Hp.w) (by simp; omega)).small (by simp; omega) (k := 0) (by simpa using hk)
    simp at this
    omega
  · unfold depF
    exact depN_out ys.length c (fun k hk e => hc ⟨k, hk, e⟩)

theorem Ys.dep_pos (h : Ys xs n ys) (hl : 2 ≤ ys.length) {c : Nat} (hc : c < n) : 0 < depF ys c ↔ 0 < xs.getD c 0 := by
  constructor
  · intro hp
    by_cases hx : ∃ k, k < ys.length ∧ (ys.getD k default).s = (c : Int)
    · obtain ⟨k, hk, e⟩ := hx
      obtain ⟨c', e1, -, e3, -⟩ := h.sym (show ys.getD k default ∈ ys by simp [List.getD_eq_getElem?_getD, hk])
      rw [e] at e1
      obtain rfl : c = c' := by omega
      exact e3
    · unfold depF at hp
      rw [depN_out ys.length c (fun k hk e => hx ⟨k, hk, e⟩)] at hp
      omega
  · intro hx
    obtain ⟨k, hk, e, -⟩ := h.has hc hx
    rw [h.dep_at hk e]
    exact (bel_ok (ys.map Hp.w) (by simp; omega)).pos (by simp; omega)

theorem Ys.sym_perm (h : Ys xs n ys) (hl : 2 ≤ ys.length) : (symL (depF ys) n).Perm (ys.map Hp.s) := by
  refine (List.perm_ext_iff_of_nodup (symL_nodup _ _) h.nodup).2 fun x => ?_
  rw [symL_mem, List.mem_map]
  constructor
  · rintro ⟨c, rfl, h1, h2⟩
    obtain ⟨k, hk, e, -⟩ := h.has h1 ((h.dep_pos hl h1).1 h2)
    exact ⟨ys.getD k default, by simp [List.getD_eq_getElem?_getD, hk], e⟩
  · rintro ⟨y, hy, rfl⟩
    obtain ⟨c, e1, e2, e3, -⟩ := h.sym hy
    exact ⟨c, e1, e2, (h.dep_pos hl e2).2 e3⟩

theorem map_range_getD {α : Type} (l : List α) (d : α) : (List.range l.length).map (fun k => l.getD k d) = l := by
  apply List.ext_getElem
  · simp
  · intro i h1 h2
    simp [List.getD_eq_getElem?_getD, h2]

theorem sum_syms (ys : List Hp) (F : Int → Nat) : ((ys.map Hp.s).map F).sum = ((List.range ys.length).map fun k => F (ys.getD k default).s).sum := by
  conv => lhs; rw [← map_range_getD ys default]
  rw [List.map_map, List.map_map]; rfl

/-- Symbols in order of their depths leave no code over. -/
theorem Ys.full (h : Ys xs n ys) (hl : 2 ≤ ys.length) {zs : List Int} (hz : (symL (depF ys) n).Perm zs) (hpw : zs.Pairwise (fun a b => depF ys a.toNat ≤ depF ys b.toNat)) :
    zs.length = ys.length ∧ Full (fun k => depF ys (zs.getD k 0).toNat) (2 * ys.length) zs.length := by
  have hp := hz.symm.trans (h.sym_perm hl)
  refine ⟨by have := hp.length_eq; simpa using this, ?_, ?_, ?_⟩
  · intro k hk
    have := h.dep_le (zs.getD k 0).toNat
    show depF ys (zs.getD k 0).toNat ≤ _
    omega
  · intro i k hik hk
    rcases Nat.eq_or_lt_of_le hik with rfl | hlt
    · exact Nat.le_refl _
    · have := List.pairwise_iff_getElem.1 hpw i k (by omega) hk hlt
      simpa [List.getD_eq_getElem?_getD, List.getElem?_eq_getElem hk, List.getElem?_eq_getElem (show i < zs.length by omega)] using this
  · have e1 : ahead (fun k => depF ys (zs.getD k 0).toNat) (2 * ys.length) zs.length = (zs.map fun z => 2 ^ (2 * ys.length - depF ys z.toNat)).sum := by
      unfold ahead
      conv => rhs; rw [← map_range_getD zs 0]
      rw [List.map_map]; rfl
    have e2 : ((ys.map Hp.s).map fun z => 2 ^ (2 * ys.length - depF ys z.toNat)).sum = ((List.range (ys.map Hp.w).length).map fun k => 2 ^ (2 * ys.length - bel (ys.map Hp.w) k)).sum := by
      rw [List.length_map, sum_syms]
      congr 1
      apply List.map_congr_left
      intro k hk
      have hk' := List.mem_range.1 hk
      obtain ⟨c, e3, -⟩ := h.sym (show ys.getD k default ∈ ys by simp [List.getD_eq_getElem?_getD, hk'])
      show 2 ^ (2 * ys.length - depF ys ((ys.getD k default).s).toNat) = _
      rw [e3, Int.toNat_natCast, h.dep_at hk' e3]
    rw [e1, (hp.map _).sum_nat, e2]
    exact (bel_ok (ys.map Hp.w) (by simp; omega)).kraft (by simp; omega) _ (by simp; omega)

/-- Who is counted more often lies no deeper. -/
theorem Ys.order (h : Ys xs n ys) (hl : 2 ≤ ys.length) {i k : Nat} (hi : i < n) (hk : k < n) (hx : 0 < xs.getD k 0) (hw : min (xs.getD k 0) big < min (xs.getD i 0) big) : depF ys i ≤ depF ys k := by
  have hxi : 0 < xs.getD i 0 := by omega
  obtain ⟨a, ha, e1, e2⟩ := h.has hi hxi
  obtain ⟨b, hb, e3, e4⟩ := h.has hk hx
  rw [h.dep_at ha e1, h.dep_at hb e3]
  refine (bel_ok (ys.map Hp.w) (by simp; omega)).lone (by simp; omega) ?_ (by simpa using ha)
  by_cases hba : b ≤ a
  · exact hba
  · have := List.pairwise_iff_getElem.1 h.pw a b ha hb (by omega)
    rw [show ys.getD a default = ys[a] by simp [List.getD_eq_getElem?_getD, ha]] at e2
    rw [show ys.getD b default = ys[b] by simp [List.getD_eq_getElem?_getD, hb]] at e4
    omega

end Go.Proofs.YtdidoecigkbffaaGreat

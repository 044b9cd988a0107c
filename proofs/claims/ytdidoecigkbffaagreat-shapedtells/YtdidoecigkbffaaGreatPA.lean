/- Plain facts: a symbol's code is as long as it lies deep; what the laws of codes ask. -/
import Derived.Test.YtdidoecigkbffaaGreatND
namespace Go.Proofs.YtdidoecigkbffaaGreat
open S J

theorem codN_at {zs : List Int} {d : Nat → Nat} (hnd : zs.Nodup) : ∀ K, K ≤ zs.length → ∀ k, k < K → ∀ c : Nat, zs.getD k 0 = (c : Int) → codN (fun k => zs.getD k 0) d K c = codeSeq d k := by
  intro K
  induction K with
  | zero => intro _ k hk; omega
  | succ K ih =>
    intro hK k hk c hc
    show (if (c : Int) = zs.getD K 0 then codeSeq d K else codN (fun k => zs.getD k 0) d K c) = codeSeq d k
    by_cases e : k = K
    · subst e; rw [if_pos hc.symm]
    · rw [if_neg, ih (by omega) k (by omega) c hc]
      intro e2
      rw [← hc] at e2
      have hp := List.pairwise_iff_getElem.1 hnd k K (by omega) (by omega) (by omega)
      apply hp
      simp only [List.getD_eq_getElem?_getD, List.getElem?_eq_getElem (show k < zs.length by omega), List.getElem?_eq_getElem (show K < zs.length by omega), Option.getD_some] at e2
      exact e2

theorem codN_out {zs : List Int} {d : Nat → Nat} : ∀ K, ∀ c : Nat, (∀ k, k < K → zs.getD k 0 ≠ (c : Int)) → codN (fun k => zs.getD k 0) d K c = [] := by
  intro K
  induction K with
  | zero => intro c _; rfl
  | succ K ih =>
    intro c h
    show (if (c : Int) = zs.getD K 0 then codeSeq d K else codN (fun k => zs.getD k 0) d K c) = []
    rw [if_neg (fun e => h K (by omega) e.symm)]
    exact ih c fun k hk => h k (by omega)

theorem resc (A B : Nat) (F : Int → Nat) : ∀ zs : List Int, (∀ z ∈ zs, F z ≤ A ∧ F z ≤ B) → 2 ^ B * (zs.map fun z => 2 ^ (A - F z)).sum = 2 ^ A * (zs.map fun z => 2 ^ (B - F z)).sum := by
  intro zs
  induction zs with
  | nil => intro _; rfl
  | cons z zs ih =>
    intro h
    have h1 := h z (by simp)
    rw [List.map_cons, List.map_cons, List.sum_cons, List.sum_cons, Nat.mul_add, Nat.mul_add, ih (fun y hy => h y (by simp [hy])), ← Nat.pow_add, ← Nat.pow_add, show B + (A - F z) = A + (B - F z) by omega]

/-- Where the symbols' codes stand in order. -/
theorem Cod.place {xs : List Int} {n : Nat} {ys : List Hp} {zs : List Int} (h : Cod xs n ys zs) (hl : 2 ≤ ys.length) {c : Nat} (hc : c < n) (hx : 0 < xs.getD c 0) : ∃ k, k < zs.length ∧ zs.getD k 0 = (c : Int) ∧ codF ys zs c = codeSeq (fun k => depF ys (zs.getD k 0).toNat) k := by
  have hp := same_perm h.same
  have hm : (c : Int) ∈ zs := hp.mem_iff.1 (symL_mem.2 ⟨c, rfl, hc, (h.yo.dep_pos hl hc).2 hx⟩)
  obtain ⟨k, hk, e⟩ := List.getElem_of_mem hm
  have e2 : zs.getD k 0 = (c : Int) := by simp [List.getD_eq_getElem?_getD, hk, e]
  have hnd : zs.Nodup := (hp.nodup_iff).1 (symL_nodup _ _)
  exact ⟨k, hk, e2, codN_at hnd zs.length (Nat.le_refl _) k hk c e2⟩

theorem Cod.none {xs : List Int} {n : Nat} {ys : List Hp} {zs : List Int} (h : Cod xs n ys zs) {c : Nat} (hx : depF ys c = 0) : codF ys zs c = [] := by
  have hp := same_perm h.same
  refine codN_out zs.length c fun k hk e => ?_
  have hm : (c : Int) ∈ zs := by rw [← e]; simp [List.getD_eq_getElem?_getD, hk]
  obtain ⟨c', e1, -, e3⟩ := symL_mem.1 (hp.mem_iff.2 hm)
  obtain rfl : c = c' := by omega
  omega

theorem Cod.lenD {xs : List Int} {n : Nat} {ys : List Hp} {zs : List Int} (h : Cod xs n ys zs) (hl : 2 ≤ ys.length) {c : Nat} (hc : c < n) : (codF ys zs c).length = depF ys c := by
  obtain ⟨h1, h2⟩ := h.yo.full hl (same_perm h.same) h.pw
  by_cases hx : 0 < xs.getD c 0
  · obtain ⟨k, hk, e1, e2⟩ := h.place hl hc hx
    rw [e2, (h2.codes k hk).1]
    show depF ys (zs.getD k 0).toNat = _
    rw [e1, Int.toNat_natCast]
  · have h3 : depF ys c = 0 := by
      have := h.yo.dep_pos hl hc
      omega
    rw [h.none h3, h3]; rfl

theorem Cod.free {xs : List Int} {n : Nat} {ys : List Hp} {zs : List Int} (h : Cod xs n ys zs) (hl : 2 ≤ ys.length) {i k : Nat} (hi : i < n) (hk : k < n) (hik : i ≠ k) (hx : 0 < xs.getD i 0) (hy : 0 < xs.getD k 0) (s : List Bool) : codF ys zs k ≠ codF ys zs i ++ s := by
  obtain ⟨h1, h2⟩ := h.yo.full hl (same_perm h.same) h.pw
  obtain ⟨a, ha, e1, e2⟩ := h.place hl hi hx
  obtain ⟨b, hb, e3, e4⟩ := h.place hl hk hy
  rw [e2, e4]
  exact h2.free ha hb (fun e => hik (by subst e; omega)) s

theorem Cod.kraft {xs : List Int} {n : Nat} {ys : List Hp} {zs : List Int} (h : Cod xs n ys zs) (hl : 2 ≤ ys.length) (hn : n ≤ 30) : ((symL (depF ys) n).map fun z => 2 ^ (30 - depF ys z.toNat)).sum = 2 ^ 30 := by
  obtain ⟨h1, h2⟩ := h.yo.full hl (same_perm h.same) h.pw
  have hp := same_perm h.same
  have e1 : ahead (fun k => depF ys (zs.getD k 0).toNat) (2 * ys.length) zs.length = (zs.map fun z => 2 ^ (2 * ys.length - depF ys z.toNat)).sum := by
    unfold ahead
    conv => rhs; rw [← map_range_getD zs 0]
    rw [List.map_map]; rfl
  have h3 := h2.sum
  rw [e1] at h3
  have hy : ys.length ≤ n := by
    have h4 := h.yo.perm.length_eq
    have h5 := loneL_length xs n
    omega
  have h4 := resc (2 * ys.length) 30 (fun z => depF ys z.toNat) zs (fun z _ => by have := h.yo.dep_le z.toNat; show depF ys z.toNat ≤ _ ∧ depF ys z.toNat ≤ _; omega)
  rw [h3, Nat.mul_comm] at h4
  rw [(hp.map _).sum_nat]
  exact (Nat.eq_of_mul_eq_mul_left (Nat.pow_pos (by decide)) h4).symm

/-- How many are counted. -/
def many (xs : List Int) (k : Nat) : Nat := (loneL xs k).length
theorem many_succ (xs : List Int) (k : Nat) : many xs (k + 1) = many xs k + if 0 < xs.getD k 0 then 1 else 0 := by
  unfold many
  rw [loneL_succ, List.length_append]
  split <;> rfl
theorem Cod.many {xs : List Int} {n : Nat} {ys : List Hp} {zs : List Int} (h : Cod xs n ys zs) : ys.length = many xs n := h.yo.perm.length_eq.symm

theorem many_app (xs : List Int) (y : Int) : many (xs ++ [y]) (xs.length + 1) = many xs xs.length + if 0 < y then 1 else 0 := by
  rw [many_succ]
  have e : (xs ++ [y]).getD xs.length 0 = y := by simp [List.getD_eq_getElem?_getD]
  rw [e]
  congr 1
  unfold YtdidoecigkbffaaGreat.many loneL
  rw [List.length_map, List.length_map]
  congr 1
  apply List.filter_congr
  intro c hc
  have := List.mem_range.1 hc
  simp [List.getD_eq_getElem?_getD, List.getElem?_append_left this]

/-- What the codes of the first k symbols weigh. -/
def wei (f : Nat → List Bool) : Nat → Nat
  | 0 => 0
  | k + 1 => wei f k + if f k = [] then 0 else 2 ^ (30 - (f k).length)
theorem wei_mono (f : Nat → List Bool) {i k : Nat} (h : i ≤ k) : wei f i ≤ wei f k := by
  induction k with
  | zero => rw [show i = 0 by omega]; exact Nat.le_refl _
  | succ k ih =>
    by_cases e : i = k + 1
    · rw [e]; exact Nat.le_refl _
    · exact Nat.le_trans (ih (by omega)) (Nat.le_add_right _ _)

theorem Cod.wei {xs : List Int} {n : Nat} {ys : List Hp} {zs : List Int} (h : Cod xs n ys zs) (hl : 2 ≤ ys.length) : ∀ k, k ≤ n → wei (codF ys zs) k = ((symL (depF ys) k).map fun z => 2 ^ (30 - depF ys z.toNat)).sum := by
  intro k
  induction k with
  | zero => intro _; rfl
  | succ k ih =>
    intro hk
    show YtdidoecigkbffaaGreat.wei _ k + (if codF ys zs k = [] then 0 else 2 ^ (30 - (codF ys zs k).length)) = _
    rw [ih (by omega), symL_succ, List.map_append, List.sum_append]
    have hL := h.lenD hl (c := k) (by omega)
    by_cases hd : 0 < depF ys k
    · rw [if_pos hd, if_neg (fun e => by rw [e] at hL; simp at hL; omega), hL]; simp
    · rw [if_neg hd, if_pos (List.eq_nil_of_length_eq_zero (by omega))]; rfl
theorem Cod.wei_all {xs : List Int} {n : Nat} {ys : List Hp} {zs : List Int} (h : Cod xs n ys zs) (hl : 2 ≤ ys.length) (hn : n ≤ 30) : YtdidoecigkbffaaGreat.wei (codF ys zs) n = 2 ^ 30 := by
  rw [h.wei hl n (Nat.le_refl _), h.kraft hl hn]

end Go.Proofs.YtdidoecigkbffaaGreat

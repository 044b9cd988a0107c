/- Plain facts: a row whose places go round in one ring is a row turned. No program is named here. -/
import Derived.Test.YtdepncdknofocaaYA
set_option maxRecDepth 100000
namespace Go.Proofs.Ytdepncdknofocaa

variable {l b o : List Int} {f : Nat → Nat} {n c k : Nat}

/-- Steps among n places, no two to one. -/
structure Ring (f : Nat → Nat) (n : Nat) : Prop where
  lt : ∀ j, j < n → f j < n
  inj : ∀ i j, i < n → j < n → f i = f j → i = j
theorem Ring.itlt (h : Ring f n) (hn : 0 < n) : ∀ i, itS f i < n
  | 0 => hn
  | i + 1 => h.lt _ (h.itlt hn i)
theorem Ring.back (h : Ring f n) (hn : 0 < n) : ∀ i d, itS f (i + d) = itS f i → itS f d = 0 := by
  intro i
  induction i with
  | zero => intro d e; rw [Nat.zero_add] at e; exact e
  | succ i ih =>
    intro d e
    rw [show i + 1 + d = (i + d) + 1 by omega] at e
    exact ih d (h.inj _ _ (h.itlt hn _) (h.itlt hn _) e)
theorem Ring.free (h : Ring f n) (hn : 0 < n) (hk : ∀ i, 0 < i → i ≤ k → itS f i ≠ 0) {i j : Nat} (hij : i < j) (hj : j ≤ k) : itS f i ≠ itS f j := fun e => by
  have := h.back hn i (j - i) (by rw [show i + (j - i) = j by omega]; exact e.symm)
  exact hk (j - i) (by omega) (by omega) this
theorem Ring.few (h : Ring f n) (hn : 0 < n) (hk : ∀ i, 0 < i → i ≤ k → itS f i ≠ 0) : k < n := by
  have h1 := nodup_len (l1 := (List.range (k + 1)).map fun i => (itS f i : Int)) (l2 := plcs n) (by
    rw [List.Nodup, List.pairwise_map]
    refine List.Pairwise.imp_of_mem (fun {i j} hi hj hij => ?_) List.pairwise_lt_range
    have hj := List.mem_range.1 hj
    have := h.free hn hk hij (by omega)
    omega) (by
    intro x hx
    obtain ⟨i, -, rfl⟩ := List.mem_map.1 hx
    have := h.itlt hn i
    exact plcs_mem.2 (by omega))
  rw [List.length_map, List.length_range, plcs_length] at h1
  omega

/-- The ring through 0 has c places. -/
structure Cyc (f : Nat → Nat) (c : Nat) : Prop where
  pos : 0 < c
  zero : itS f c = 0
  no : ∀ i, 0 < i → i < c → itS f i ≠ 0
theorem Cyc.uniq {c' : Nat} (h : Cyc f c) (h' : Cyc f c') : c = c' := by
  rcases Nat.lt_trichotomy c c' with e | e | e
  · exact absurd h.zero (h'.no c h.pos e)
  · exact e
  · exact absurd h'.zero (h.no c' h'.pos e)
theorem turn_cyc (h : I64s l) (hn : Nn l) : Cyc (sgL (nextL l)) (l.length + 1) :=
  ⟨by omega, by rw [it_turn h hn _ (Nat.le_refl _), plR_len h hn], fun i h0 hi => by
    obtain ⟨i, rfl⟩ : ∃ j, i = j + 1 := ⟨i - 1, by omega⟩
    rw [it_turn h hn i (by omega)]
    exact plR_pos h hn (by omega)⟩

theorem ord_ring (κ : Int → Int) (n : Nat) : Ring (sgL (ordP κ n)) n := by
  refine ⟨fun j hj => ?_, fun i j hi hj e => ?_⟩
  · obtain ⟨p, e, hp⟩ := ordP_at κ n hj
    unfold sgL
    rw [e, Int.toNat_natCast]; exact hp
  · obtain ⟨p, e1, hp⟩ := ordP_at κ n hi
    obtain ⟨q, e2, hq⟩ := ordP_at κ n hj
    unfold sgL at e
    rcases Nat.lt_trichotomy i j with k | k | k
    · have := ordP_rise κ n k hj
      rw [e1, e2] at this e
      rw [Int.toNat_natCast, Int.toNat_natCast] at e
      subst e; omega
    · exact k
    · have := ordP_rise κ n k hi
      rw [e1, e2] at this e
      rw [Int.toNat_natCast, Int.toNat_natCast] at e
      subst e; omega

theorem mono_id {g : Nat → Nat} (h1 : ∀ i j, i < j → j < n → g i < g j) (h2 : ∀ i, i < n → g i < n) : ∀ i, i < n → g i = i := by
  have lo : ∀ i, i < n → i ≤ g i := by
    intro i
    induction i with
    | zero => intro _; exact Nat.zero_le _
    | succ i ih => intro hi; have := ih (by omega); have := h1 i (i + 1) (by omega) hi; omega
  have up : ∀ d i, i + d < n → g i + d ≤ g (i + d) := by
    intro d
    induction d with
    | zero => intro i _; exact Nat.le_refl _
    | succ d ih => intro i hi; have := ih i (by omega); have := h1 (i + d) (i + (d + 1)) (by omega) hi; omega
  intro i hi
  have a := lo i hi
  have b := up (n - 1 - i) i (by omega)
  have c := h2 (i + (n - 1 - i)) (by omega)
  omega

/-- What is read round the ring. -/
def backL (b : List Int) (f : Nat → Nat) (m : Nat) : List Int := (List.range m).map fun k => b.getD (itS f (k + 2)) 0
theorem backL_len (b : List Int) (f : Nat → Nat) (m : Nat) : (backL b f m).length = m := by simp [backL]
theorem backL_at (b : List Int) (f : Nat → Nat) {m k : Nat} (hk : k < m) (x : Int) : (backL b f m).getD k x = b.getD (itS f (k + 2)) 0 := by simp [backL, List.getD_eq_getElem?_getD, hk]

/-- The row of a ring through all places is the row turned of what is read. -/
theorem cyc_turn {m : Nat} (hl : b.length = m + 1) (hE : Ended b) (hC : Cyc (sgL (ordP (kyI b) (m + 1))) (m + 1)) : Nn (backL b (sgL (ordP (kyI b) (m + 1))) m) ∧ (I64s b → turnL (backL b (sgL (ordP (kyI b) (m + 1))) m) = b) := by
  have hR := ord_ring (kyI b) (m + 1)
  have hmono : ∀ i j, i < j → j < m + 1 → b.getD (sgL (ordP (kyI b) (m + 1)) i) 0 < b.getD (sgL (ordP (kyI b) (m + 1)) j) 0 ∨ (b.getD (sgL (ordP (kyI b) (m + 1)) i) 0 = b.getD (sgL (ordP (kyI b) (m + 1)) j) 0 ∧ sgL (ordP (kyI b) (m + 1)) i < sgL (ordP (kyI b) (m + 1)) j) := by
    intro i j hij hj
    have := ordP_rise (kyI b) (m + 1) hij hj
    obtain ⟨p, e1, hp⟩ := ordP_at (kyI b) (m + 1) (show i < m + 1 by omega)
    obtain ⟨q, e2, hq⟩ := ordP_at (kyI b) (m + 1) hj
    rw [e1, e2, kyI_nat, kyI_nat] at this
    unfold sgL
    rw [e1, e2, Int.toNat_natCast, Int.toNat_natCast]
    omega
  have hsur : ∀ k, k < m + 1 → ∃ j, j < m + 1 ∧ sgL (ordP (kyI b) (m + 1)) j = k := by
    intro k hk
    have hm : (k : Int) ∈ ordP (kyI b) (m + 1) := ordP_mem.2 (by omega)
    obtain ⟨j, hj, e⟩ := List.getElem_of_mem hm
    rw [ordP_length] at hj
    refine ⟨j, hj, ?_⟩
    unfold sgL
    rw [List.getD_eq_getElem?_getD, List.getElem?_eq_getElem (by rw [ordP_length]; exact hj), Option.getD_some, e, Int.toNat_natCast]
  obtain ⟨k, hk, hk1, hk2⟩ := hE
  rw [hl] at hk hk2
  generalize sgL (ordP (kyI b) (m + 1)) = f at *
  have f0 : f 0 = k := by
    obtain ⟨j, hj, e⟩ := hsur k hk
    by_cases hj0 : j = 0
    · rw [← hj0]; exact e
    · apply Classical.byContradiction
      intro hne
      have h1 := hmono 0 j (by omega) hj
      have h2 := hk2 (f 0) (hR.lt 0 (by omega)) hne
      rw [e, hk1] at h1
      omega
  have hfree : ∀ {i j : Nat}, i < j → j ≤ m → itS f i ≠ itS f j := fun {i j} hij hj => hR.free (by omega) (fun i h0 hi => hC.no i h0 (by omega)) hij hj
  have hnn : Nn (backL b f m) := by
    intro x hx
    unfold backL at hx
    obtain ⟨p, hp, rfl⟩ := List.mem_map.1 hx
    have hp := List.mem_range.1 hp
    refine hk2 _ (hR.itlt (by omega) _) fun e => ?_
    rw [← f0] at e
    have e1 : itS f 1 = f 0 := rfl
    by_cases hpm : p + 2 ≤ m
    · exact hfree (i := 1) (j := p + 2) (by omega) hpm (by rw [e1, e])
    · have hz := hC.zero
      rw [show m + 1 = p + 2 by omega, e, ← e1] at hz
      exact hC.no 1 (by omega) (by omega) hz
  refine ⟨hnn, fun h64 => ?_⟩
  have hll := backL_len b f m
  have hF : ∀ p, p ≤ m → (backL b f m).getD p (-1) = b.getD (f (itS f (p + 1))) 0 := by
    intro p hp
    by_cases e : p < m
    · rw [backL_at b f e]; rfl
    · rw [getD_out (by omega), show p + 1 = m + 1 by omega, hC.zero, f0, hk1]
  have hIb : I64s (backL b f m) := by
    intro x hx
    unfold backL at hx
    obtain ⟨p, hp, rfl⟩ := List.mem_map.1 hx
    exact h64 _ (getD_mem (by rw [hl]; exact hR.itlt (by omega) _))
  generalize hgl : backL b f m = l at *
  have hinj : ∀ p q, p ≤ m → q ≤ m → itS f (p + 1) = itS f (q + 1) → p = q := by
    have key : ∀ p q, p < q → q ≤ m → itS f (p + 1) ≠ itS f (q + 1) := by
      intro p q hpq hq e
      by_cases hqm : q < m
      · exact hfree (i := p + 1) (j := q + 1) (by omega) (by omega) e
      · rw [show q + 1 = m + 1 by omega, hC.zero] at e
        exact hC.no (p + 1) (by omega) (by omega) e
    intro p q hp hq e
    rcases Nat.lt_trichotomy p q with k | k | k
    · exact absurd e (key p q k hq)
    · exact k
    · exact absurd e.symm (key q p k hp)
  have hlt : ∀ k p q, p ≤ m → q ≤ m → (∀ j, j < k → sf (-1) l p j = sf (-1) l q j) → sf (-1) l p k < sf (-1) l q k → itS f (p + 1) < itS f (q + 1) := by
    intro k
    induction k with
    | zero =>
      intro p q hp hq _ h2
      unfold sf at h2
      rw [Nat.add_zero, Nat.add_zero, hF p hp, hF q hq] at h2
      rcases Nat.lt_trichotomy (itS f (p + 1)) (itS f (q + 1)) with k | k | k
      · exact k
      · rw [k] at h2; omega
      · have := hmono _ _ k (hR.itlt (by omega) _); omega
    | succ k ih =>
      intro p q hp hq h1 h2
      have e0 := h1 0 (by omega)
      unfold sf at e0
      rw [Nat.add_zero, Nat.add_zero] at e0
      have hpm : p < m := by
        apply Nat.not_le.1
        intro hle
        rw [getD_out (i := p) (by omega)] at e0
        have := (hnn.abv.iff _).1 e0.symm
        rw [show p = q by omega] at h2
        omega
      have hqm : q < m := by
        apply Nat.not_le.1
        intro hle
        rw [getD_out (i := q) (by omega)] at e0
        have := (hnn.abv.iff _).1 e0
        omega
      have h3 := ih (p + 1) (q + 1) (by omega) (by omega) (fun j hj => by rw [sf_tail, sf_tail]; exact h1 (j + 1) (by omega)) (by rw [sf_tail, sf_tail]; exact h2)
      rw [hF p hp, hF q hq] at e0
      have h3 : f (itS f (p + 1)) < f (itS f (q + 1)) := h3
      rcases Nat.lt_trichotomy (itS f (p + 1)) (itS f (q + 1)) with k | k | k
      · exact k
      · rw [k] at h3; omega
      · have := hmono _ _ k (hR.itlt (by omega) _); omega
  have hid := mono_id (n := m + 1) (g := fun j => itS f (plA l j + 1)) (fun i j hij hj => by
    obtain ⟨k, h1, h2⟩ := plA_up hIb hnn hij (by omega)
    exact hlt k _ _ (by have := (allA_at hIb hnn (j := i) (by omega)).2; omega) (by have := (allA_at hIb hnn (j := j) (by omega)).2; omega) h1 h2) (fun i _ => hR.itlt (by omega) _)
  apply List.ext_getElem (by rw [turnL_len, hll, hl])
  intro j hj hj'
  rw [turnL_len] at hj
  have ht := turn_at hIb hnn (j := j) (by omega)
  have hj3 : itS f (plA l j + 1) = j := hid j (by omega)
  have ha := (allA_at hIb hnn (j := j) (by omega)).2
  have e1 : (turnL l).getD j 0 = (turnL l)[j]'(by rw [turnL_len]; exact hj) := by simp [List.getD_eq_getElem?_getD, turnL_len, hj]
  have e2 : b.getD j 0 = b[j] := by simp [List.getD_eq_getElem?_getD, hj']
  rw [← e1, ← e2, ht]
  by_cases e : plA l j = 0
  · rw [if_pos e]
    rw [e] at hj3
    have : f 0 = j := hj3
    rw [← this, f0, hk1]
  · rw [if_neg e]
    conv => rhs; rw [← hj3]
    have := backL_at b f (m := m) (k := plA l j - 1) (by omega) 0
    rw [hgl] at this
    rw [this, show plA l j - 1 + 2 = plA l j + 1 by omega]

/-- Is it the row turned of some row? -/
def Tb (b : List Int) : Prop := ∃ l, Nn l ∧ I64s l ∧ b = turnL l
theorem tb_iff (h64 : I64s b) : Tb b ↔ Ended b ∧ Cyc (sgL (ordP (kyI b) b.length)) b.length := by
  constructor
  · rintro ⟨l, h1, h2, rfl⟩
    refine ⟨turn_ended h2 h1, ?_⟩
    rw [turnL_len, turn_ord h2 h1]
    exact turn_cyc h2 h1
  · rintro ⟨h1, h2⟩
    obtain ⟨m, hm⟩ : ∃ m, b.length = m + 1 := ⟨b.length - 1, by obtain ⟨k, hk, -⟩ := h1; omega⟩
    rw [hm] at h2
    obtain ⟨h3, h4⟩ := cyc_turn hm h1 h2
    refine ⟨_, h3, fun x hx => ?_, (h4 h64).symm⟩
    unfold backL at hx
    obtain ⟨p, hp, rfl⟩ := List.mem_map.1 hx
    exact h64 _ (getD_mem (by rw [hm]; exact (ord_ring _ _).itlt (by omega) _))
theorem turn_inj {l l' : List Int} (h : I64s l) (hn : Nn l) (h' : I64s l') (hn' : Nn l') (e : turnL l = turnL l') : l = l' := by
  have hl : l.length = l'.length := by
    have := congrArg List.length e
    rw [turnL_len, turnL_len] at this
    omega
  have hx : nextL l = nextL l' := by rw [← turn_ord h hn, ← turn_ord h' hn', e, hl]
  apply List.ext_getElem hl
  intro p hp hp'
  have h1 := turn_back h hn hp
  have h2 := turn_back h' hn' hp'
  rw [← it_turn h hn (p + 1) (by omega)] at h1
  rw [← it_turn h' hn' (p + 1) (by omega), ← hx, ← e, h1] at h2
  simpa [List.getD_eq_getElem?_getD, hp, hp'] using h2

end Go.Proofs.Ytdepncdknofocaa

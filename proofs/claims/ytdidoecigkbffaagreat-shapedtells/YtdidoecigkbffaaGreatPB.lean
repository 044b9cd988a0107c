/- Plain facts: how many codes begin with a text; places in parts. -/
import Derived.Test.YtdidoecigkbffaaGreatFree
namespace Go.Proofs.YtdidoecigkbffaaGreat
open S J

/-- How many of the codes begin with p. -/
def begB (p c : List Bool) : Bool := decide (p.length ≤ c.length ∧ c.take p.length = p)
def bgn (cs : List (List Bool)) (p : List Bool) : Nat := (cs.filter (begB p)).length
theorem bgn_nil (cs : List (List Bool)) : bgn cs [] = cs.length := by
  unfold bgn
  rw [List.filter_eq_self.2 (fun c _ => by simp [begB])]
theorem begB_snoc (p c : List Bool) (d : Bool) : begB (p ++ [d]) c = (decide (p.length < c.length ∧ c.take p.length = p) && decide (c.getD p.length false = d)) := by
  unfold begB
  rw [← Bool.decide_and, decide_eq_decide, List.length_append, List.length_singleton]
  constructor
  · rintro ⟨h1, h2⟩
    have hlt : p.length < c.length := by omega
    rw [List.take_succ_eq_append_getElem hlt] at h2
    have h3 := List.append_inj h2 (by rw [List.length_take]; omega)
    refine ⟨⟨hlt, h3.1⟩, ?_⟩
    have h4 := (List.cons.inj h3.2).1
    simp [List.getD_eq_getElem?_getD, hlt, h4]
  · rintro ⟨⟨h1, h2⟩, h3⟩
    refine ⟨by omega, ?_⟩
    rw [List.take_succ_eq_append_getElem h1, h2]
    congr 1
    simp [List.getD_eq_getElem?_getD, h1] at h3
    rw [h3]
theorem bgn_snoc (cs : List (List Bool)) (p : List Bool) (d : Bool) : bgn cs (p ++ [d]) = (partB cs p).count d := by
  induction cs with
  | nil => rfl
  | cons c cs ih =>
    have e1 : partB (c :: cs) p = nxt p c ++ partB cs p := by unfold partB; rw [List.flatMap_cons]
    rw [e1, List.count_append, ← ih]
    unfold bgn
    rw [List.filter_cons, begB_snoc]
    unfold nxt nxtK
    by_cases h : p.length < c.length ∧ c.take p.length = p
    · rw [decide_eq_true h, Bool.true_and, if_pos h]
      by_cases hd : c.getD p.length false = d
      · rw [decide_eq_true hd, if_pos rfl, hd, List.length_cons, List.count_singleton]
        simp; omega
      · rw [decide_eq_false hd, if_neg (by decide), List.count_singleton, if_neg (by simpa using hd)]; omega
    · rw [decide_eq_false h, Bool.false_and, if_neg (by decide), if_neg h]; simp
theorem part_len (cs : List (List Bool)) (p : List Bool) (h : p ∉ cs) : (partB cs p).length = bgn cs p := by
  induction cs with
  | nil => rfl
  | cons c cs ih =>
    have e1 : partB (c :: cs) p = nxt p c ++ partB cs p := by unfold partB; rw [List.flatMap_cons]
    have hc : p ≠ c := fun e => h (by simp [e])
    rw [e1, List.length_append, ih (fun hm => h (by simp [hm])), nxt_one]
    unfold bgn
    rw [List.filter_cons]
    unfold begB
    by_cases h1 : p.length < c.length ∧ c.take p.length = p
    · rw [if_pos h1, if_pos (by simpa using ⟨Nat.le_of_lt h1.1, h1.2⟩), List.length_cons]; omega
    · rw [if_neg h1, if_neg, Nat.zero_add]
      intro h2
      simp only [decide_eq_true_eq] at h2
      apply h1
      refine ⟨?_, h2.2⟩
      rcases Nat.lt_or_eq_of_le h2.1 with h3 | h3
      · exact h3
      · exfalso
        apply hc
        have := h2.2
        rw [h3, List.take_length] at this
        exact this.symm
theorem part_cut (cs : List (List Bool)) (p : List Bool) (i : Nat) : partB cs p = partB (cs.take i) p ++ partB (cs.drop i) p := by
  conv => lhs; rw [← List.take_append_drop i cs]
  unfold partB
  rw [List.flatMap_append]
/-- A place in a part, one digit on. -/
theorem part_rank (cs : List (List Bool)) (p : List Bool) (i : Nat) (d : Bool) (h : p ∉ cs) : bgn (cs.take i) p ≤ (partB cs p).length ∧ rkN d (partB cs p) (bgn (cs.take i) p) = bgn (cs.take i) (p ++ [d]) := by
  have hl := part_len (cs.take i) p (fun hm => h (List.mem_of_mem_take hm))
  rw [← hl, bgn_snoc]
  constructor
  · rw [part_cut cs p i, List.length_append]; omega
  · unfold rkN
    rw [part_cut cs p i, List.take_left']
    rfl

/-- Codes of which none begins another. -/
structure FR (xs : List Int) (size : Nat) (f : Nat → List Bool) : Prop where
  isIn : ∀ x ∈ xs, 0 ≤ x ∧ x < size
  inj : ∀ a b : Nat, a < size → b < size → 0 < cntI xs a → 0 < cntI xs b → ∀ s, f b = f a ++ s → b = a
  non : ∀ c, c < size → cntI xs c = 0 → f c = []
  len : ∀ c, (f c).length ≤ size

theorem cnt_pos {xs : List Int} {c : Nat} : 0 < cntI xs c ↔ (c : Int) ∈ xs := by
  unfold cntI
  rw [← List.count_pos_iff]
  omega
theorem FR.of {xs : List Int} {size : Nat} {ys : List Hp} {zs : List Int} (h : Cod (cntL xs size) size ys zs) (hx : ∀ x ∈ xs, 0 ≤ x ∧ x < size) : FR xs size (codF ys zs) := by
  refine ⟨hx, fun a b ha hb h1 h2 s e => ?_, fun c hc h0 => ?_, fun c => h.len c⟩
  · rw [← cntL_at xs size a ha] at h1
    rw [← cntL_at xs size b hb] at h2
    by_cases hl : 2 ≤ ys.length
    · by_cases e2 : a = b
      · exact e2.symm
      · exact absurd e (h.free hl ha hb e2 h1 h2 s)
    · obtain ⟨k, hk, e1, -⟩ := h.yo.has ha h1
      obtain ⟨k', hk', e1', -⟩ := h.yo.has hb h2
      obtain rfl : k = k' := by omega
      omega
  · by_cases hn : codF ys zs c = []
    · exact hn
    · have := (h.has hc).1 hn
      rw [cntL_at xs size c hc] at this
      omega

variable {xs : List Int} {size : Nat} {f : Nat → List Bool}
theorem FR.one (h : FR xs size f) {a b : Int} (ha : a ∈ xs) (hb : b ∈ xs) {s : List Bool} (e : f b.toNat = f a.toNat ++ s) : b = a := by
  have h1 := h.isIn a ha
  have h2 := h.isIn b hb
  have := h.inj a.toNat b.toNat (by omega) (by omega) (cnt_pos.2 (by rw [Int.toNat_of_nonneg h1.1]; exact ha)) (cnt_pos.2 (by rw [Int.toNat_of_nonneg h2.1]; exact hb)) s e
  omega
/-- What begins a code, and is less, is none. -/
theorem FR.part (h : FR xs size f) {c : Int} (hc : c ∈ xs) {k : Nat} (hk : k < (f c.toNat).length) : (f c.toNat).take k ∉ codesL xs f := by
  intro hm
  unfold codesL at hm
  obtain ⟨x, hx, e⟩ := List.mem_map.1 hm
  have e2 : f c.toNat = f x.toNat ++ (f c.toNat).drop k := by rw [e, List.take_append_drop]
  have := h.one hx hc e2
  subst this
  have := congrArg List.length e
  rw [List.length_take] at this
  omega
theorem FR.whole (h : FR xs size f) {c : Int} (hc : c ∈ xs) (i : Nat) : bgn ((codesL xs f).take i) (f c.toNat) = (xs.take i).count c := by
  unfold bgn codesL
  rw [← List.map_take, List.filter_map, List.length_map, List.count_eq_countP, List.countP_eq_length_filter]
  congr 1
  apply List.filter_congr
  intro x hx
  have hx' := List.mem_of_mem_take hx
  show begB (f c.toNat) (f x.toNat) = (x == c)
  by_cases e : x = c
  · subst e; simp [begB]
  · have : (x == c) = false := by simpa using e
    rw [this]
    unfold begB
    refine decide_eq_false fun h2 => e ?_
    refine h.one hc hx' (s := (f x.toNat).drop (f c.toNat).length) ?_
    conv => lhs; rw [← List.take_append_drop (f c.toNat).length (f x.toNat), h2.2]

/-- The symbol of a code. -/
theorem symN_some {cn : Nat → Int} {p : List Bool} {v : Value} : ∀ K, symN f cn K p = some v → ∃ c, c < K ∧ 0 < cn c ∧ p = f c ∧ v = .int .i64 (c : Int) := by
  intro K
  induction K with
  | zero => intro h; cases h
  | succ K ih =>
    intro h
    unfold symN at h
    split at h
    · rename_i hp
      split at h
      · rename_i e
        cases h
        exact ⟨K, by omega, hp, e, rfl⟩
      · obtain ⟨c, h1, h2⟩ := ih h
        exact ⟨c, by omega, h2⟩
    · obtain ⟨c, h1, h2⟩ := ih h
      exact ⟨c, by omega, h2⟩
theorem symN_at {cn : Nat → Int} {c : Nat} (hcn : 0 < cn c) : ∀ K, c < K → (∀ c', c' < K → 0 < cn c' → f c' = f c → c' = c) → symN f cn K (f c) = some (.int .i64 (c : Int)) := by
  intro K
  induction K with
  | zero => intro h; omega
  | succ K ih =>
    intro hc hu
    unfold symN
    by_cases e : c = K
    · subst e
      rw [if_pos hcn, if_pos rfl]
    · split
      · rename_i hp
        rw [if_neg (fun e2 => e (hu K (by omega) hp e2.symm).symm)]
        exact ih (by omega) (fun c' h1 h2 h3 => hu c' (by omega) h2 h3)
      · exact ih (by omega) (fun c' h1 h2 h3 => hu c' (by omega) h2 h3)
theorem FR.sym (h : FR xs size f) {c : Int} (hc : c ∈ xs) : symN f (cntI xs) size (f c.toNat) = some (.int .i64 c) := by
  have h1 := h.isIn c hc
  have hp : 0 < cntI xs c.toNat := cnt_pos.2 (by rw [Int.toNat_of_nonneg h1.1]; exact hc)
  have := symN_at (f := f) (cn := cntI xs) hp size (by omega) (fun c' h2 h3 e => h.inj c.toNat c' (by omega) h2 hp h3 [] (by rw [List.append_nil]; exact e))
  rw [Int.toNat_of_nonneg h1.1] at this
  exact this
/-- What is asked of the symbols' map of a number that stands nowhere. -/
theorem FR.nosym {c : Int} (hc : c ∉ xs) (p : List Bool) : symN f (cntI xs) size p = none ∨ ∃ c' : Int, c' ≠ c ∧ symN f (cntI xs) size p = some (.int .i64 c') := by
  cases hs : symN f (cntI xs) size p with
  | none => exact .inl rfl
  | some v =>
    obtain ⟨c', -, h2, -, rfl⟩ := symN_some size hs
    refine .inr ⟨c', fun e => hc ?_, rfl⟩
    rw [← e]
    exact cnt_pos.1 h2
/-- What begins a code, and is less, is no symbol's. -/
theorem FR.sympart (h : FR xs size f) {c : Int} (hc : c ∈ xs) {k : Nat} (hk : k < (f c.toNat).length) : symN f (cntI xs) size ((f c.toNat).take k) = none := by
  cases hs : symN f (cntI xs) size ((f c.toNat).take k) with
  | none => rfl
  | some v =>
    obtain ⟨c', -, h2, h3, -⟩ := symN_some size hs
    exfalso
    apply h.part hc hk
    unfold codesL
    exact List.mem_map.2 ⟨(c' : Int), cnt_pos.1 h2, by rw [Int.toNat_natCast]; exact h3.symm⟩

end Go.Proofs.YtdidoecigkbffaaGreat

/- Plain facts: rows held against each other number by number; the order of suffixes; thirds of a row. No program is named here. -/
import Derived.Test.YtdepncdknofocaaOQ
import Derived.Test.YtdepncdknofocaaOL
import Derived.Test.YtdepncdknofocaaOM
namespace Go.Proofs.Ytdepncdknofocaa

/-- One is less at the first place where they differ. -/
def lx (f g : Nat → Int) : Prop := ∃ k, (∀ m, m < k → f m = g m) ∧ f k < g k

theorem lx.irr {f : Nat → Int} : ¬ lx f f := fun ⟨k, _, h⟩ => by omega
theorem lx.trans {f g h : Nat → Int} : lx f g → lx g h → lx f h := by
  rintro ⟨k, h1, h2⟩ ⟨j, h3, h4⟩
  rcases Nat.lt_trichotomy k j with e | e | e
  · exact ⟨k, fun m hm => (h1 m hm).trans (h3 m (by omega)), by rw [← h3 k e]; exact h2⟩
  · subst e
    exact ⟨k, fun m hm => (h1 m hm).trans (h3 m hm), by omega⟩
  · exact ⟨j, fun m hm => (h1 m (by omega)).trans (h3 m hm), by rw [h1 j e]; exact h4⟩
theorem lx.asymm {f g : Nat → Int} (h : lx f g) : ¬ lx g f := fun k => lx.irr (h.trans k)
theorem lx_total {f g : Nat → Int} {m : Nat} (h : f m ≠ g m) : lx f g ∨ lx g f := by
  have : ∃ k, f k ≠ g k ∧ ∀ j, j < k → f j = g j := by
    induction m using Nat.strongRecOn with
    | _ m ih =>
      by_cases e : ∃ j, j < m ∧ f j ≠ g j
      · obtain ⟨j, hj, hne⟩ := e
        exact ih j hj hne
      · exact ⟨m, h, fun j hj => Classical.byContradiction fun hne => e ⟨j, hj, hne⟩⟩
  obtain ⟨k, h1, h2⟩ := this
  rcases Int.lt_or_gt_of_ne h1 with e | e
  · exact .inl ⟨k, h2, e⟩
  · exact .inr ⟨k, fun m hm => (h2 m hm).symm, e⟩
theorem lx_congr {f g f' g' : Nat → Int} (h : ∀ m, (f m < g m ↔ f' m < g' m) ∧ (f m = g m ↔ f' m = g' m)) : lx f g ↔ lx f' g' :=
  ⟨fun ⟨k, h1, h2⟩ => ⟨k, fun m hm => (h m).2.1 (h1 m hm), (h k).1.1 h2⟩, fun ⟨k, h1, h2⟩ => ⟨k, fun m hm => (h m).2.2 (h1 m hm), (h k).1.2 h2⟩⟩

/-- What stands from a place on; behind the end b. -/
def sf (b : Int) (l : List Int) (p : Nat) : Nat → Int := fun m => l.getD (p + m) b
def sl (b : Int) (l : List Int) (p q : Nat) : Prop := lx (sf b l p) (sf b l q)
/-- All are above b. -/
def Abv (b : Int) (l : List Int) : Prop := ∀ x ∈ l, b < x

theorem getD_in {l : List Int} {i : Nat} {b : Int} (h : i < l.length) : l.getD i b = l.getD i 0 := by simp [List.getD_eq_getElem?_getD, h]
theorem getD_out {l : List Int} {i : Nat} {b : Int} (h : l.length ≤ i) : l.getD i b = b := by simp [List.getD_eq_getElem?_getD, h]
theorem getD_mem {l : List Int} {i : Nat} {b : Int} (h : i < l.length) : l.getD i b ∈ l := by simp [List.getD_eq_getElem?_getD, h]
theorem Abv.at {b : Int} {l : List Int} (h : Abv b l) {i : Nat} (hi : i < l.length) : b < l.getD i b := h _ (getD_mem hi)
theorem Abv.iff {b : Int} {l : List Int} (h : Abv b l) (i : Nat) : l.getD i b = b ↔ l.length ≤ i :=
  ⟨fun e => Nat.not_lt.1 fun hi => by have := h.at hi; omega, fun hi => getD_out hi⟩

/-- Where two suffixes are alike neither ends, unless they are one. -/
theorem sl_inside {b : Int} {l : List Int} (hb : Abv b l) {p q k : Nat} (hp : p ≤ l.length) (hq : q ≤ l.length) (hne : p ≠ q) (h : ∀ m, m < k → sf b l p m = sf b l q m) : ∀ m, m < k → p + m < l.length ∧ q + m < l.length := by
  intro m hm
  have key : ∀ {p q : Nat}, p ≤ l.length → q ≤ l.length → p ≠ q → (∀ m, m < k → sf b l p m = sf b l q m) → p + m < l.length := by
    intro p q hp hq hne h
    apply Nat.not_le.1
    intro hle
    have h1 := h (l.length - p) (by omega)
    unfold sf at h1
    rw [getD_out (i := p + (l.length - p)) (by omega)] at h1
    have h2 := (hb.iff _).1 h1.symm
    have h3 := h (l.length - q) (by omega)
    unfold sf at h3
    rw [getD_out (i := q + (l.length - q)) (by omega)] at h3
    have h4 := (hb.iff _).1 h3
    omega
  exact ⟨key hp hq hne h, key hq hp (Ne.symm hne) (fun m hm => (h m hm).symm)⟩
theorem sl_total {b : Int} {l : List Int} (hb : Abv b l) {p q : Nat} (hp : p ≤ l.length) (hq : q ≤ l.length) (hne : p ≠ q) : sl b l p q ∨ sl b l q p := by
  by_cases h : ∃ m, sf b l p m ≠ sf b l q m
  · obtain ⟨m, hm⟩ := h
    exact lx_total hm
  · have := sl_inside hb (k := l.length + 1) hp hq hne (fun m _ => Classical.byContradiction fun e => h ⟨m, e⟩) l.length (by omega)
    omega
theorem sl_map {b b' : Int} {l l' : List Int} (hl : l.length = l'.length) (hb : Abv b l) (hb' : Abv b' l') (h : ∀ i j, i < l.length → j < l.length → (l.getD i 0 < l.getD j 0 ↔ l'.getD i 0 < l'.getD j 0)) (p q : Nat) : sl b l p q ↔ sl b' l' p q := by
  apply lx_congr
  intro m
  unfold sf
  generalize p + m = x
  generalize q + m = y
  by_cases hx : x < l.length
  · by_cases hy : y < l.length
    · rw [getD_in hx, getD_in hy, getD_in (l := l') (by omega), getD_in (l := l') (i := y) (by omega)]
      have h1 := h x y hx hy
      have h2 := h y x hy hx
      omega
    · have h1 := hb.at hx
      have h2 := hb'.at (i := x) (by omega)
      rw [getD_out (l := l) (i := y) (by omega), getD_out (l := l') (i := y) (by omega)]
      omega
  · by_cases hy : y < l.length
    · have h1 := hb.at hy
      have h2 := hb'.at (i := y) (by omega)
      rw [getD_out (l := l) (i := x) (by omega), getD_out (l := l') (i := x) (by omega)]
      omega
    · rw [getD_out (l := l) (i := x) (by omega), getD_out (l := l') (i := x) (by omega), getD_out (l := l) (i := y) (by omega), getD_out (l := l') (i := y) (by omega)]
      omega

theorem pw_uniq {R : Int → Int → Prop} (irr : ∀ x, ¬ R x x) (asy : ∀ x y, R x y → ¬ R y x) : ∀ {s t : List Int}, s.Pairwise R → t.Pairwise R → (∀ x, x ∈ s ↔ x ∈ t) → s = t := by
  intro s
  induction s with
  | nil =>
    intro t _ _ h
    cases t with
    | nil => rfl
    | cons a t => have := (h a).2 (by simp); simp at this
  | cons a s ih =>
    intro t h1 h2 h
    cases t with
    | nil => have := (h a).1 (by simp); simp at this
    | cons b t =>
      rw [List.pairwise_cons] at h1 h2
      have hab : a = b := by
        by_cases e : a = b
        · exact e
        · exfalso
          have ha := (h a).1 (by simp)
          have hb := (h b).2 (by simp)
          rcases List.mem_cons.1 ha with e1 | e1
          · exact e e1
          · rcases List.mem_cons.1 hb with e2 | e2
            · exact e e2.symm
            · exact asy _ _ (h1.1 b e2) (h2.1 a e1)
      subst hab
      congr 1
      refine ih h1.2 h2.2 fun x => ⟨fun hx => ?_, fun hx => ?_⟩
      · rcases List.mem_cons.1 ((h x).1 (by simp [hx])) with e | e
        · subst e; exact absurd (h1.1 x hx) (irr x)
        · exact e
      · rcases List.mem_cons.1 ((h x).2 (by simp [hx])) with e | e
        · subst e; exact absurd (h2.1 x hx) (irr x)
        · exact e

/-- The places of a row by rising suffixes. -/
structure SA (b : Int) (l o : List Int) : Prop where
  len : o.length = l.length
  mem : ∀ x ∈ o, 0 ≤ x ∧ x < l.length
  up : o.Pairwise (fun x y => sl b l x.toNat y.toNat)
variable {b b' : Int} {l l' o o' : List Int}
theorem SA.at (h : SA b l o) {i j : Nat} (hij : i < j) (hj : j < l.length) : sl b l (o.getD i 0).toNat (o.getD j 0).toNat := by
  have := List.pairwise_iff_getElem.1 h.up i j (by rw [h.len]; omega) (by rw [h.len]; omega) hij
  simpa [List.getD_eq_getElem?_getD, List.getElem?_eq_getElem (show i < o.length by rw [h.len]; omega), List.getElem?_eq_getElem (show j < o.length by rw [h.len]; omega)] using this
theorem SA.pl (h : SA b l o) {i : Nat} (hi : i < l.length) : ∃ p : Nat, o.getD i 0 = (p : Int) ∧ p < l.length := by
  have := h.mem _ (getD_mem (b := 0) (show i < o.length by rw [h.len]; exact hi))
  exact ⟨(o.getD i 0).toNat, by omega, by omega⟩
theorem SA.inj (h : SA b l o) {i j : Nat} (hi : i < l.length) (hj : j < l.length) (e : o.getD i 0 = o.getD j 0) : i = j := by
  rcases Nat.lt_trichotomy i j with h1 | h1 | h1
  · have := h.at h1 hj; rw [e] at this; exact absurd this lx.irr
  · exact h1
  · have := h.at h1 hi; rw [e] at this; exact absurd this lx.irr
theorem SA.all (h : SA b l o) : allB o = true := all_good (fun i hi => by
    rw [h.len] at hi ⊢
    obtain ⟨p, e, hp⟩ := h.pl hi
    omega) (fun i j hi hj e => h.inj (by rw [← h.len]; exact hi) (by rw [← h.len]; exact hj) e)
theorem SA.has (h : SA b l o) (p : Nat) (hp : p < l.length) : ∃ i, i < l.length ∧ o.getD i 0 = (p : Int) := by
  have := allB_iff.1 h.all (p : Int) (plcs_mem.2 (by rw [h.len]; omega))
  obtain ⟨i, hi, e⟩ := List.getElem_of_mem this
  exact ⟨i, by rw [← h.len]; exact hi, by simp [List.getD_eq_getElem?_getD, hi, e]⟩
theorem SA.iff (h : SA b l o) {i j p q : Nat} (hi : i < l.length) (hj : j < l.length) (ep : o.getD i 0 = (p : Int)) (eq : o.getD j 0 = (q : Int)) : i < j ↔ sl b l p q := by
  constructor
  · intro hij
    have := h.at hij hj
    rw [ep, eq] at this
    exact this
  · intro hs
    rcases Nat.lt_trichotomy i j with h1 | h1 | h1
    · exact h1
    · subst h1
      have : p = q := by omega
      subst this
      exact absurd hs lx.irr
    · have := h.at h1 hi
      rw [ep, eq] at this
      exact absurd hs this.asymm
theorem SA.uniq (h : SA b l o) (h' : SA b l o') : o = o' := by
  refine pw_uniq (R := fun x y => sl b l x.toNat y.toNat) (fun x => lx.irr) (fun x y h => h.asymm) h.up h'.up (fun x => ?_)
  constructor
  · intro hx
    have := h.mem x hx
    obtain ⟨i, hi, e⟩ := h'.has x.toNat (by omega)
    have hm := getD_mem (b := 0) (show i < o'.length by rw [h'.len]; exact hi)
    rw [e] at hm
    rwa [show ((x.toNat : Nat) : Int) = x by omega] at hm
  · intro hx
    have := h'.mem x hx
    obtain ⟨i, hi, e⟩ := h.has x.toNat (by omega)
    have hm := getD_mem (b := 0) (show i < o.length by rw [h.len]; exact hi)
    rw [e] at hm
    rwa [show ((x.toNat : Nat) : Int) = x by omega] at hm
theorem SA.map (h : SA b l o) (hl : l.length = l'.length) (hs : ∀ p q, p < l.length → q < l.length → (sl b l p q → sl b' l' p q)) : SA b' l' o :=
  ⟨h.len.trans hl, fun x hx => by rw [← hl]; exact h.mem x hx, h.up.imp_of_mem fun {x y} hx hy hxy => hs _ _ (by have := h.mem x hx; omega) (by have := h.mem y hy; omega) hxy⟩

/-! ## Ranks -/
/-- A row of ranks: none is left out. -/
structure Rk (row : List Int) : Prop where
  nn : ∀ x ∈ row, 0 ≤ x ∧ x < row.length
  dn : ∀ x ∈ row, ∀ y, 0 ≤ y → y ≤ x → y ∈ row
theorem Rk.abv (h : Rk l) : Abv (-1) l := fun x hx => by have := h.nn x hx; omega
/-- Are no two the same? -/
def Df (row : List Int) : Prop := row.length = 0 ∨ ((row.length : Int) - 1) ∈ row
theorem Rk.all (h : Rk l) (hd : Df l) : allB l = true := by
  rw [allB_iff]
  intro x hx
  have := plcs_mem.1 hx
  rcases hd with e | e
  · omega
  · exact h.dn _ e x this.1 (by omega)

theorem nless_below (κ : Int → Int) (n : Nat) {p : Nat} (hp : p < n) : nless κ n (κ p) < n := by
  have h1 := nless_lt κ n (v := κ p + 1) hp (by omega)
  have h2 := nless_le κ n (κ p + 1)
  omega
theorem rnk_rk (κ : Int → Int) (n : Nat) : Rk (rnkL κ n) := by
  have hat : ∀ x ∈ rnkL κ n, ∃ p : Nat, p < n ∧ x = ((nless κ n (κ p) : Nat) : Int) := fun x hx => by
    unfold rnkL at hx
    obtain ⟨p, hp, rfl⟩ := List.mem_map.1 hx
    exact ⟨p, List.mem_range.1 hp, rfl⟩
  constructor
  · intro x hx
    obtain ⟨p, hp, rfl⟩ := hat x hx
    have := nless_below κ n hp
    rw [rnkL_length]
    omega
  · intro x hx y h0 hy
    obtain ⟨p, hp, rfl⟩ := hat x hx
    obtain ⟨q, hq, e⟩ := rnk_dense κ n (v := y.toNat) hp (by omega)
    unfold rnkL
    exact List.mem_map.2 ⟨q, List.mem_range.2 hq, by omega⟩
theorem rnk_lt (κ : Int → Int) (n : Nat) {p q : Nat} (hp : p < n) (hq : q < n) : ((rnkL κ n).getD p 0 < (rnkL κ n).getD q 0 ↔ κ p < κ q) ∧ ((rnkL κ n).getD p 0 = (rnkL κ n).getD q 0 ↔ κ p = κ q) := by
  rw [rnkL_at κ n p hp, rnkL_at κ n q hq]
  have := nless_iff κ n hp hq
  omega
theorem Rk.inj_df (h : Rk l) (hi : ∀ i j, i < l.length → j < l.length → l.getD i 0 = l.getD j 0 → i = j) : Df l := by
  by_cases h0 : l.length = 0
  · exact .inl h0
  · refine .inr ?_
    have := allB_iff.1 (all_good (p := l) (fun i hi' => h.nn _ (getD_mem hi')) hi) ((l.length : Int) - 1) (plcs_mem.2 (by omega))
    exact this

/-- A row of unlike ranks, turned round, is the order. -/
theorem Rk.turn (h : Rk l) (hd : Df l) {L : List Int} (hL : L.length = l.length) (hq : ∀ i, i < l.length → ∃ q : Nat, l.getD i 0 = (q : Int) ∧ q < l.length ∧ L.getD q 0 = (i : Int)) : SA (-1) l L := by
  have hall := allB_iff.1 (h.all hd)
  have hin : ∀ a, a < l.length → ∃ i : Nat, i < l.length ∧ l.getD i 0 = (a : Int) ∧ L.getD a 0 = (i : Int) := fun a ha => by
    obtain ⟨i, hi, e⟩ := List.getElem_of_mem (hall (a : Int) (plcs_mem.2 (by omega)))
    obtain ⟨q, e1, e2, e3⟩ := hq i hi
    have e4 : l.getD i 0 = (a : Int) := by simp [List.getD_eq_getElem?_getD, hi, e]
    have : q = a := by omega
    subst this
    exact ⟨i, hi, e4, e3⟩
  refine ⟨hL, fun x hx => ?_, ?_⟩
  · obtain ⟨a, ha, e⟩ := List.getElem_of_mem hx
    rw [hL] at ha
    obtain ⟨i, hi, -, e2⟩ := hin a ha
    simp only [List.getD_eq_getElem?_getD, List.getElem?_eq_getElem (show a < L.length by omega), Option.getD_some, e] at e2
    omega
  · rw [List.pairwise_iff_getElem]
    intro a c ha hc hac
    rw [hL] at ha hc
    obtain ⟨i, hi, e1, e2⟩ := hin a ha
    obtain ⟨j, hj, e3, e4⟩ := hin c hc
    simp only [List.getD_eq_getElem?_getD, List.getElem?_eq_getElem (show a < L.length by omega), List.getElem?_eq_getElem (show c < L.length by omega), Option.getD_some] at e2 e4
    rw [e2, e4, Int.toNat_natCast, Int.toNat_natCast]
    refine ⟨0, fun m hm => by omega, ?_⟩
    show l.getD (i + 0) (-1) < l.getD (j + 0) (-1)
    rw [Nat.add_zero, Nat.add_zero, getD_in hi, getD_in hj, e1, e3]
    omega

end Go.Proofs.Ytdepncdknofocaa

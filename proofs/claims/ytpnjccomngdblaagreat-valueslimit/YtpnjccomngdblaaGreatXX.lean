/- Merged out of: XA XB XC XD XE XF XG XH XI XJ XK XL XM. -/
import Derived.Test.YtpnjccomngdblaaGreatOO
import Derived.Lib.AppendZeros
import Derived.Deep.LoopGhost

section
/- Plain facts: rows held against each other number by number; the order of suffixes; thirds of a row. No program is named here. -/
namespace Go.Proofs.YtpnjccomngdblaaGreat

/-- One is less at the first place where they differ. -/
def lx (f g : Nat → Int) : Prop := ∃ k, (∀ m, m < k → f m = g m) ∧ f k < g k

theorem lx.irr {f : Nat → Int} : ¬ lx f f := fun ⟨k, _, h⟩ => by omega
theorem lx.trans {f g h : Nat → Int} : lx f g → lx g h → lx f h := by
  rintro ⟨k, h1, h2⟩ ⟨j, h3, h4⟩
  rcases Nat.lt_trichotomy k j with e | e | e
  · exact ⟨k, fun m hm => (h1 m hm).trans (h3 m (by omega)), by rw [← h3 k e]; exact h2⟩
  · subst e
    exact ⟨k, fun m hm => (h1 m hm).trans (h3 m hm), by omega⟩
  · exact ⟨j, fun m hm => (h1 m (by omega)).trans (h3 m hm), by rw [h1 j e]; exact h4⟩
theorem lx.asymm {f g : Nat → Int} (h : lx f g) : ¬ lx g f := fun k => lx.irr (h.trans k)
theorem lx_total {f g : Nat → Int} {m : Nat} (h : f m ≠ g m) : lx f g ∨ lx g f := by
  have : ∃ k, f k ≠ g k ∧ ∀ j, j < k → f j = g j := by
    induction m using Nat.strongRecOn with
    | _ m ih =>
      by_cases e : ∃ j, j < m ∧ f j ≠ g j
      · obtain ⟨j, hj, hne⟩ := e
        exact ih j hj hne
      · exact ⟨m, h, fun j hj => Classical.byContradiction fun hne => e ⟨j, hj, hne⟩⟩
  obtain ⟨k, h1, h2⟩ := this
  rcases Int.lt_or_gt_of_ne h1 with e | e
  · exact .inl ⟨k, h2, e⟩
  · exact .inr ⟨k, fun m hm => (h2 m hm).symm, e⟩
theorem lx_congr {f g f' g' : Nat → Int} (h : ∀ m, (f m < g m ↔ f' m < g' m) ∧ (f m = g m ↔ f' m = g' m)) : lx f g ↔ lx f' g' :=
  ⟨fun ⟨k, h1, h2⟩ => ⟨k, fun m hm => (h m).2.1 (h1 m hm), (h k).1.1 h2⟩, fun ⟨k, h1, h2⟩ => ⟨k, fun m hm => (h m).2.2 (h1 m hm), (h k).1.2 h2⟩⟩

/-- What stands from a place on; behind the end b. -/
def sf (b : Int) (l : List Int) (p : Nat) : Nat → Int := fun m => l.getD (p + m) b
def sl (b : Int) (l : List Int) (p q : Nat) : Prop := lx (sf b l p) (sf b l q)
/-- All are above b. -/
def Abv (b : Int) (l : List Int) : Prop := ∀ x ∈ l, b < x

theorem getD_in {l : List Int} {i : Nat} {b : Int} (h : i < l.length) : l.getD i b = l.getD i 0 := by simp [List.getD_eq_getElem?_getD, h]
theorem getD_out {l : List Int} {i : Nat} {b : Int} (h : l.length ≤ i) : l.getD i b = b := by simp [List.getD_eq_getElem?_getD, h]
theorem getD_mem {l : List Int} {i : Nat} {b : Int} (h : i < l.length) : l.getD i b ∈ l := by simp [List.getD_eq_getElem?_getD, h]
theorem Abv.at {b : Int} {l : List Int} (h : Abv b l) {i : Nat} (hi : i < l.length) : b < l.getD i b := h _ (getD_mem hi)
theorem Abv.iff {b : Int} {l : List Int} (h : Abv b l) (i : Nat) : l.getD i b = b ↔ l.length ≤ i :=
  ⟨fun e => Nat.not_lt.1 fun hi => by have := h.at hi; omega, fun hi => getD_out hi⟩

/-- Where two suffixes are alike neither ends, unless they are one. -/
theorem sl_inside {b : Int} {l : List Int} (hb : Abv b l) {p q k : Nat} (hp : p ≤ l.length) (hq : q ≤ l.length) (hne : p ≠ q) (h : ∀ m, m < k → sf b l p m = sf b l q m) : ∀ m, m < k → p + m < l.length ∧ q + m < l.length := by
  intro m hm
  have key : ∀ {p q : Nat}, p ≤ l.length → q ≤ l.length → p ≠ q → (∀ m, m < k → sf b l p m = sf b l q m) → p + m < l.length := by
    intro p q hp hq hne h
    apply Nat.not_le.1
    intro hle
    have h1 := h (l.length - p) (by omega)
    unfold sf at h1
    rw [getD_out (i := p + (l.length - p)) (by omega)] at h1
    have h2 := (hb.iff _).1 h1.symm
    have h3 := h (l.length - q) (by omega)
    unfold sf at h3
    rw [getD_out (i := q + (l.length - q)) (by omega)] at h3
    have h4 := (hb.iff _).1 h3
    omega
  exact ⟨key hp hq hne h, key hq hp (Ne.symm hne) (fun m hm => (h m hm).symm)⟩
theorem sl_total {b : Int} {l : List Int} (hb : Abv b l) {p q : Nat} (hp : p ≤ l.length) (hq : q ≤ l.length) (hne : p ≠ q) : sl b l p q ∨ sl b l q p := by
  by_cases h : ∃ m, sf b l p m ≠ sf b l q m
  · obtain ⟨m, hm⟩ := h
    exact lx_total hm
  · have := sl_inside hb (k := l.length + 1) hp hq hne (fun m _ => Classical.byContradiction fun e => h ⟨m, e⟩) l.length (by omega)
    omega
theorem sl_map {b b' : Int} {l l' : List Int} (hl : l.length = l'.length) (hb : Abv b l) (hb' : Abv b' l') (h : ∀ i j, i < l.length → j < l.length → (l.getD i 0 < l.getD j 0 ↔ l'.getD i 0 < l'.getD j 0)) (p q : Nat) : sl b l p q ↔ sl b' l' p q := by
  apply lx_congr
  intro m
  unfold sf
  generalize p + m = x
  generalize q + m = y
  by_cases hx : x < l.length
  · by_cases hy : y < l.length
    · rw [getD_in hx, getD_in hy, getD_in (l := l') (by omega), getD_in (l := l') (i := y) (by omega)]
      have h1 := h x y hx hy
      have h2 := h y x hy hx
      omega
    · have h1 := hb.at hx
      have h2 := hb'.at (i := x) (by omega)
      rw [getD_out (l := l) (i := y) (by omega), getD_out (l := l') (i := y) (by omega)]
      omega
  · by_cases hy : y < l.length
    · have h1 := hb.at hy
      have h2 := hb'.at (i := y) (by omega)
      rw [getD_out (l := l) (i := x) (by omega), getD_out (l := l') (i := x) (by omega)]
      omega
    · rw [getD_out (l := l) (i := x) (by omega), getD_out (l := l') (i := x) (by omega), getD_out (l := l) (i := y) (by omega), getD_out (l := l') (i := y) (by omega)]
      omega

theorem pw_uniq {R : Int → Int → Prop} (irr : ∀ x, ¬ R x x) (asy : ∀ x y, R x y → ¬ R y x) : ∀ {s t : List Int}, s.Pairwise R → t.Pairwise R → (∀ x, x ∈ s ↔ x ∈ t) → s = t := by
  intro s
  induction s with
  | nil =>
    intro t _ _ h
    cases t with
    | nil => rfl
    | cons a t => have := (h a).2 (by simp); simp at this
  | cons a s ih =>
    intro t h1 h2 h
    cases t with
    | nil => have := (h a).1 (by simp); simp at this
    | cons b t =>
      rw [List.pairwise_cons] at h1 h2
      have hab : a = b := by
        by_cases e : a = b
        · exact e
        · exfalso
          have ha := (h a).1 (by simp)
          have hb := (h b).2 (by simp)
          rcases List.mem_cons.1 ha with e1 | e1
          · exact e e1
          · rcases List.mem_cons.1 hb with e2 | e2
            · exact e e2.symm
            · exact asy _ _ (h1.1 b e2) (h2.1 a e1)
      subst hab
      congr 1
      refine ih h1.2 h2.2 fun x => ⟨fun hx => ?_, fun hx => ?_⟩
      · rcases List.mem_cons.1 ((h x).1 (by simp [hx])) with e | e
        · subst e; exact absurd (h1.1 x hx) (irr x)
        · exact e
      · rcases List.mem_cons.1 ((h x).2 (by simp [hx])) with e | e
        · subst e; exact absurd (h2.1 x hx) (irr x)
        · exact e

/-- The places of a row by rising suffixes. -/
structure SA (b : Int) (l o : List Int) : Prop where
  len : o.length = l.length
  mem : ∀ x ∈ o, 0 ≤ x ∧ x < l.length
  up : o.Pairwise (fun x y => sl b l x.toNat y.toNat)
variable {b b' : Int} {l l' o o' : List Int}
theorem SA.at (h : SA b l o) {i j : Nat} (hij : i < j) (hj : j < l.length) : sl b l (o.getD i 0).toNat (o.getD j 0).toNat := by
  have := List.pairwise_iff_getElem.1 h.up i j (by rw [h.len]; omega) (by rw [h.len]; omega) hij
  simpa [List.getD_eq_getElem?_getD, List.getElem?_eq_getElem (show i < o.length by rw [h.len]; omega), List.getElem?_eq_getElem (show j < o.length by rw [h.len]; omega)] using this
theorem SA.pl (h : SA b l o) {i : Nat} (hi : i < l.length) : ∃ p : Nat, o.getD i 0 = (p : Int) ∧ p < l.length := by
  have := h.mem _ (getD_mem (b := 0) (show i < o.length by rw [h.len]; exact hi))
  exact ⟨(o.getD i 0).toNat, by omega, by omega⟩
theorem SA.inj (h : SA b l o) {i j : Nat} (hi : i < l.length) (hj : j < l.length) (e : o.getD i 0 = o.getD j 0) : i = j := by
  rcases Nat.lt_trichotomy i j with h1 | h1 | h1
  · have := h.at h1 hj; rw [e] at this; exact absurd this lx.irr
  · exact h1
  · have := h.at h1 hi; rw [e] at this; exact absurd this lx.irr
theorem SA.all (h : SA b l o) : allB o = true := all_good (fun i hi => by
    rw [h.len] at hi ⊢
    obtain ⟨p, e, hp⟩ := h.pl hi
    omega) (fun i j hi hj e => h.inj (by rw [← h.len]; exact hi) (by rw [← h.len]; exact hj) e)
theorem SA.has (h : SA b l o) (p : Nat) (hp : p < l.length) : ∃ i, i < l.length ∧ o.getD i 0 = (p : Int) := by
  have := allB_iff.1 h.all (p : Int) (plcs_mem.2 (by rw [h.len]; omega))
  obtain ⟨i, hi, e⟩ := List.getElem_of_mem this
  exact ⟨i, by rw [← h.len]; exact hi, by simp [List.getD_eq_getElem?_getD, hi, e]⟩
theorem SA.iff (h : SA b l o) {i j p q : Nat} (hi : i < l.length) (hj : j < l.length) (ep : o.getD i 0 = (p : Int)) (eq : o.getD j 0 = (q : Int)) : i < j ↔ sl b l p q := by
  constructor
  · intro hij
    have := h.at hij hj
    rw [ep, eq] at this
    exact this
  · intro hs
    rcases Nat.lt_trichotomy i j with h1 | h1 | h1
    · exact h1
    · subst h1
      have : p = q := by omega
      subst this
      exact absurd hs lx.irr
    · have := h.at h1 hi
      rw [ep, eq] at this
      exact absurd hs this.asymm
theorem SA.uniq (h : SA b l o) (h' : SA b l o') : o = o' := by
  refine pw_uniq (R := fun x y => sl b l x.toNat y.toNat) (fun x => lx.irr) (fun x y h => h.asymm) h.up h'.up (fun x => ?_)
  constructor
  · intro hx
    have := h.mem x hx
    obtain ⟨i, hi, e⟩ := h'.has x.toNat (by omega)
    have hm := getD_mem (b := 0) (show i < o'.length by rw [h'.len]; exact hi)
    rw [e] at hm
    rwa [show ((x.toNat : Nat) : Int) = x by omega] at hm
  · intro hx
    have := h'.mem x hx
    obtain ⟨i, hi, e⟩ := h.has x.toNat (by omega)
    have hm := getD_mem (b := 0) (show i < o.length by rw [h.len]; exact hi)
    rw [e] at hm
    rwa [show ((x.toNat : Nat) : Int) = x by omega] at hm
theorem SA.map (h : SA b l o) (hl : l.length = l'.length) (hs : ∀ p q, p < l.length → q < l.length → (sl b l p q → sl b' l' p q)) : SA b' l' o :=
  ⟨h.len.trans hl, fun x hx => by rw [← hl]; exact h.mem x hx, h.up.imp_of_mem fun {x y} hx hy hxy => hs _ _ (by have := h.mem x hx; omega) (by have := h.mem y hy; omega) hxy⟩

/-! ## Ranks -/
/-- A row of ranks: none is left out. -/
structure Rk (row : List Int) : Prop where
  nn : ∀ x ∈ row, 0 ≤ x ∧ x < row.length
  dn : ∀ x ∈ row, ∀ y, 0 ≤ y → y ≤ x → y ∈ row
theorem Rk.abv (h : Rk l) : Abv (-1) l := fun x hx => by have := h.nn x hx; omega
/-- Are no two the same? -/
def Df (row : List Int) : Prop := row.length = 0 ∨ ((row.length : Int) - 1) ∈ row
theorem Rk.all (h : Rk l) (hd : Df l) : allB l = true := by
  rw [allB_iff]
  intro x hx
  have := plcs_mem.1 hx
  rcases hd with e | e
  · omega
  · exact h.dn _ e x this.1 (by omega)

theorem nless_below (κ : Int → Int) (n : Nat) {p : Nat} (hp : p < n) : nless κ n (κ p) < n := by
  have h1 := nless_lt κ n (v := κ p + 1) hp (by omega)
  have h2 := nless_le κ n (κ p + 1)
  omega
theorem rnk_rk (κ : Int → Int) (n : Nat) : Rk (rnkL κ n) := by
  have hat : ∀ x ∈ rnkL κ n, ∃ p : Nat, p < n ∧ x = ((nless κ n (κ p) : Nat) : Int) := fun x hx => by
    unfold rnkL at hx
    obtain ⟨p, hp, rfl⟩ := List.mem_map.1 hx
    exact ⟨p, List.mem_range.1 hp, rfl⟩
  constructor
  · intro x hx
    obtain ⟨p, hp, rfl⟩ := hat x hx
    have := nless_below κ n hp
    rw [rnkL_length]
    omega
  · intro x hx y h0 hy
    obtain ⟨p, hp, rfl⟩ := hat x hx
    obtain ⟨q, hq, e⟩ := rnk_dense κ n (v := y.toNat) hp (by omega)
    unfold rnkL
    exact List.mem_map.2 ⟨q, List.mem_range.2 hq, by omega⟩
theorem rnk_lt (κ : Int → Int) (n : Nat) {p q : Nat} (hp : p < n) (hq : q < n) : ((rnkL κ n).getD p 0 < (rnkL κ n).getD q 0 ↔ κ p < κ q) ∧ ((rnkL κ n).getD p 0 = (rnkL κ n).getD q 0 ↔ κ p = κ q) := by
  rw [rnkL_at κ n p hp, rnkL_at κ n q hq]
  have := nless_iff κ n hp hq
  omega
theorem Rk.inj_df (h : Rk l) (hi : ∀ i j, i < l.length → j < l.length → l.getD i 0 = l.getD j 0 → i = j) : Df l := by
  by_cases h0 : l.length = 0
  · exact .inl h0
  · refine .inr ?_
    have := allB_iff.1 (all_good (p := l) (fun i hi' => h.nn _ (getD_mem hi')) hi) ((l.length : Int) - 1) (plcs_mem.2 (by omega))
    exact this

/-- A row of unlike ranks, turned round, is the order. -/
theorem Rk.turn (h : Rk l) (hd : Df l) {L : List Int} (hL : L.length = l.length) (hq : ∀ i, i < l.length → ∃ q : Nat, l.getD i 0 = (q : Int) ∧ q < l.length ∧ L.getD q 0 = (i : Int)) : SA (-1) l L := by
  have hall := allB_iff.1 (h.all hd)
  have hin : ∀ a, a < l.length → ∃ i : Nat, i < l.length ∧ l.getD i 0 = (a : Int) ∧ L.getD a 0 = (i : Int) := fun a ha => by
    obtain ⟨i, hi, e⟩ := List.getElem_of_mem (hall (a : Int) (plcs_mem.2 (by omega)))
    obtain ⟨q, e1, e2, e3⟩ := hq i hi
    have e4 : l.getD i 0 = (a : Int) := by simp [List.getD_eq_getElem?_getD, hi, e]
    have : q = a := by omega
    subst this
    exact ⟨i, hi, e4, e3⟩
  refine ⟨hL, fun x hx => ?_, ?_⟩
  · obtain ⟨a, ha, e⟩ := List.getElem_of_mem hx
    rw [hL] at ha
    obtain ⟨i, hi, -, e2⟩ := hin a ha
    simp only [List.getD_eq_getElem?_getD, List.getElem?_eq_getElem (show a < L.length by omega), Option.getD_some, e] at e2
    omega
  · rw [List.pairwise_iff_getElem]
    intro a c ha hc hac
    rw [hL] at ha hc
    obtain ⟨i, hi, e1, e2⟩ := hin a ha
    obtain ⟨j, hj, e3, e4⟩ := hin c hc
    simp only [List.getD_eq_getElem?_getD, List.getElem?_eq_getElem (show a < L.length by omega), List.getElem?_eq_getElem (show c < L.length by omega), Option.getD_some] at e2 e4
    rw [e2, e4, Int.toNat_natCast, Int.toNat_natCast]
    refine ⟨0, fun m hm => by omega, ?_⟩
    show l.getD (i + 0) (-1) < l.getD (j + 0) (-1)
    rw [Nat.add_zero, Nat.add_zero, getD_in hi, getD_in hj, e1, e3]
    omega

end Go.Proofs.YtpnjccomngdblaaGreat
end

section
/- Rows held against each other: the contracts of the document's Less and Alike. -/
set_option maxRecDepth 100000
namespace Go.Proofs.YtpnjccomngdblaaGreat
open Go.RowKit
open M
attribute [local go_sem ↓] Go.wp_at_zero Go.wp_at_succ

/-- Is the first row less? -/
def ltB : List Int → List Int → Bool
  | [], [] => false
  | [], _ :: _ => true
  | _ :: _, [] => false
  | x :: s, y :: t => if x < y then true else if y < x then false else ltB s t
/-- How many numbers they begin with alike. -/
def alk : List Int → List Int → Nat
  | x :: s, y :: t => if x = y then alk s t + 1 else 0
  | _, _ => 0

theorem ltB_cc (x y : Int) (s t : List Int) : ltB (x :: s) (y :: t) = if x < y then true else if y < x then false else ltB s t := by rw [ltB]
theorem at_drop {l : List Int} {i : Nat} (h : i < l.length) : l.drop i = l.getD i 0 :: l.drop (i + 1) := by
  rw [List.drop_eq_getElem_cons h, List.getD_eq_getElem?_getD, List.getElem?_eq_getElem h, Option.getD_some]
theorem drop_end {l : List Int} {i : Nat} (h : l.length ≤ i) : l.drop i = [] := List.drop_eq_nil_of_le h

theorem ltB_drop : ∀ (i : Nat) {a b : List Int}, i ≤ a.length → i ≤ b.length → (∀ j, j < i → a.getD j 0 = b.getD j 0) → ltB a b = ltB (a.drop i) (b.drop i) := by
  intro i
  induction i with
  | zero => intro a b _ _ _; rfl
  | succ i ih =>
    intro a b ha hb h
    rw [ih (by omega) (by omega) (fun j hj => h j (by omega)), at_drop (l := a) (i := i) (by omega), at_drop (l := b) (i := i) (by omega), h i (by omega)]
    rw [ltB_cc, if_neg (by omega), if_neg (by omega)]
theorem alk_drop : ∀ (i : Nat) {a b : List Int}, i ≤ a.length → i ≤ b.length → (∀ j, j < i → a.getD j 0 = b.getD j 0) → alk a b = i + alk (a.drop i) (b.drop i) := by
  intro i
  induction i with
  | zero => intro a b _ _ _; simp
  | succ i ih =>
    intro a b ha hb h
    rw [ih (by omega) (by omega) (fun j hj => h j (by omega)), at_drop (l := a) (i := i) (by omega), at_drop (l := b) (i := i) (by omega), h i (by omega)]
    rw [show alk (b.getD i 0 :: a.drop (i + 1)) (b.getD i 0 :: b.drop (i + 1)) = alk (a.drop (i + 1)) (b.drop (i + 1)) + 1 by simp [alk]]
    omega
theorem ltB_nil_r : ∀ a : List Int, ltB a [] = false := fun a => by cases a <;> rfl
theorem ltB_nil_l : ∀ b : List Int, ltB [] b = decide (0 < b.length) := fun b => by cases b <;> simp [ltB]
theorem alk_nil_l (b : List Int) : alk [] b = 0 := by cases b <;> rfl
theorem alk_nil_r (a : List Int) : alk a [] = 0 := by cases a <;> rfl

/-- Below all numbers of int. -/
def b0 : Int := -9223372036854775809
def sx (a : List Int) : Nat → Int := fun m => a.getD m b0
theorem sx_drop (l : List Int) (i : Nat) : sx (l.drop i) = sf b0 l i := by
  funext m
  simp [sx, sf, List.getD_eq_getElem?_getD]
theorem i64_abv {l : List Int} (h : I64s l) : Abv b0 l := fun x hx => by have := h x hx; unfold b0; omega
theorem i64_drop {l : List Int} (h : I64s l) (i : Nat) : I64s (l.drop i) := fun x hx => h x (List.mem_of_mem_drop hx)
theorem sx_cons0 (x : Int) (s : List Int) : sx (x :: s) 0 = x := by simp [sx]
theorem sx_consS (x : Int) (s : List Int) (m : Nat) : sx (x :: s) (m + 1) = sx s m := by simp [sx]
theorem lx_cons {x y : Int} {s t : List Int} : lx (sx (x :: s)) (sx (y :: t)) ↔ x < y ∨ (x = y ∧ lx (sx s) (sx t)) := by
  constructor
  · rintro ⟨k, h1, h2⟩
    cases k with
    | zero => rw [sx_cons0, sx_cons0] at h2; exact .inl h2
    | succ k =>
      have h0 := h1 0 (by omega)
      rw [sx_cons0, sx_cons0] at h0
      refine .inr ⟨h0, k, fun m hm => ?_, ?_⟩
      · have := h1 (m + 1) (by omega)
        rwa [sx_consS, sx_consS] at this
      · rwa [sx_consS, sx_consS] at h2
  · rintro (h | ⟨rfl, k, h1, h2⟩)
    · exact ⟨0, fun m hm => by omega, by rw [sx_cons0, sx_cons0]; exact h⟩
    · refine ⟨k + 1, fun m hm => ?_, by rw [sx_consS, sx_consS]; exact h2⟩
      cases m with
      | zero => rw [sx_cons0, sx_cons0]
      | succ m => rw [sx_consS, sx_consS]; exact h1 m (by omega)
theorem ltB_iff : ∀ {a b : List Int}, Abv b0 a → Abv b0 b → (ltB a b = true ↔ lx (sx a) (sx b)) := by
  intro a
  induction a with
  | nil =>
    intro b _ hb
    cases b with
    | nil => simp only [ltB, Bool.false_eq_true, false_iff]; exact lx.irr
    | cons y t =>
      refine ⟨fun _ => ⟨0, fun m hm => by omega, ?_⟩, fun _ => rfl⟩
      have := hb y (by simp)
      simpa [sx] using this
  | cons x s ih =>
    intro b ha hb
    cases b with
    | nil =>
      simp only [ltB, Bool.false_eq_true, false_iff]
      rintro ⟨k, h1, h2⟩
      have hx := ha x (by simp)
      cases k with
      | zero => simp [sx] at h2; omega
      | succ k => have := h1 0 (by omega); simp [sx] at this; omega
    | cons y t =>
      rw [lx_cons, ← ih (fun z hz => ha z (by simp [hz])) (fun z hz => hb z (by simp [hz]))]
      rw [ltB_cc]
      by_cases h1 : x < y
      · rw [if_pos h1]; simp [h1]
      · rw [if_neg h1]
        by_cases h2 : y < x
        · rw [if_pos h2]; simp [h1]; omega
        · rw [if_neg h2]
          have : x = y := by omega
          subst this
          simp

end Go.Proofs.YtpnjccomngdblaaGreat
end

section
/- The contracts of the document's Alike, and of its Find; how the places of a row are put in order by its suffixes. -/
set_option maxRecDepth 100000
namespace Go.Proofs.YtpnjccomngdblaaGreat
open Go.RowKit
open M
attribute [local go_sem ↓] Go.wp_at_zero Go.wp_at_succ

theorem alk_cc (x y : Int) (s t : List Int) : alk (x :: s) (y :: t) = if x = y then alk s t + 1 else 0 := by rw [alk]
theorem alk_le : ∀ a b : List Int, alk a b ≤ a.length ∧ alk a b ≤ b.length := by
  intro a
  induction a with
  | nil => intro b; rw [alk_nil_l]; simp
  | cons x s ih =>
    intro b
    cases b with
    | nil => rw [alk_nil_r]; simp
    | cons y t =>
      rw [alk_cc]
      have := ih t
      simp only [List.length_cons]
      split <;> omega

/-! ## The order of suffixes as an order of numbers -/
/-- How many suffixes are less than the one at x. -/
def sfN (l : List Int) (p : Nat) : Nat := ((List.range l.length).filter fun q => ltB (l.drop q) (l.drop p)).length
def sfK (l : List Int) (x : Int) : Int := ((sfN l x.toNat : Nat) : Int)
def sufA (l : List Int) : List Int := ordP (sfK l) l.length

theorem filter_lt {β : Type} (p q : β → Bool) : ∀ {l : List β}, (∀ x ∈ l, p x = true → q x = true) → (∃ x ∈ l, q x = true ∧ p x = false) → (l.filter p).length < (l.filter q).length := by
  intro l
  induction l with
  | nil => rintro - ⟨x, hx, -⟩; simp at hx
  | cons a t ih =>
    intro h ⟨x, hx, hq, hp⟩
    have hmono : (t.filter p).length ≤ (t.filter q).length := by
      rw [← List.countP_eq_length_filter, ← List.countP_eq_length_filter]
      exact List.countP_mono_left (fun y hy => h y (by simp [hy]))
    rcases List.mem_cons.1 hx with e | e
    · subst e
      rw [List.filter_cons, List.filter_cons, if_neg (by rw [hp]; decide), if_pos hq, List.length_cons]
      omega
    · have := ih (fun y hy => h y (by simp [hy])) ⟨x, e, hq, hp⟩
      have ha := h a (by simp)
      rw [List.filter_cons, List.filter_cons]
      by_cases hpa : p a = true
      · rw [if_pos hpa, if_pos (ha hpa), List.length_cons, List.length_cons]; omega
      · rw [if_neg hpa]
        split
        · rw [List.length_cons]; omega
        · exact this

theorem ltB_sl {l : List Int} (h : I64s l) (p q : Nat) : ltB (l.drop p) (l.drop q) = true ↔ sl b0 l p q := by
  rw [ltB_iff (i64_abv (i64_drop h p)) (i64_abv (i64_drop h q)), sx_drop, sx_drop]
  exact Iff.rfl
theorem sfN_lt1 {l : List Int} (h : I64s l) {p q : Nat} (hp : p < l.length) (hs : sl b0 l p q) : sfN l p < sfN l q := by
  unfold sfN
  apply filter_lt
  · intro r _ hr
    rw [ltB_sl h] at hr ⊢
    exact hr.trans hs
  · refine ⟨p, List.mem_range.2 hp, (ltB_sl h p q).2 hs, ?_⟩
    rw [← Bool.not_eq_true, ltB_sl h]
    exact lx.irr
theorem sfN_lt {l : List Int} (h : I64s l) {p q : Nat} (hp : p < l.length) (hq : q < l.length) : sfN l p < sfN l q ↔ sl b0 l p q := by
  refine ⟨fun hlt => ?_, sfN_lt1 h hp⟩
  by_cases e : p = q
  · subst e; omega
  · rcases sl_total (i64_abv h) (Nat.le_of_lt hp) (Nat.le_of_lt hq) e with h1 | h1
    · exact h1
    · have := sfN_lt1 h hq h1; omega
theorem sfK_lt {l : List Int} (h : I64s l) {p q : Nat} (hp : p < l.length) (hq : q < l.length) : (sfK l p < sfK l q) ↔ ltB (l.drop p) (l.drop q) = true := by
  rw [ltB_sl h, ← sfN_lt h hp hq]
  unfold sfK
  rw [Int.toNat_natCast, Int.toNat_natCast]
  omega
theorem sfK_inj {l : List Int} (h : I64s l) {p q : Nat} (hp : p < l.length) (hq : q < l.length) (e : sfK l p = sfK l q) : p = q := by
  apply Classical.byContradiction
  intro hne
  unfold sfK at e
  rw [Int.toNat_natCast, Int.toNat_natCast] at e
  rcases sl_total (i64_abv h) (Nat.le_of_lt hp) (Nat.le_of_lt hq) hne with h1 | h1
  · have := sfN_lt1 h hp h1; omega
  · have := sfN_lt1 h hq h1; omega
theorem sufA_ok {l : List Int} (h : I64s l) : SA b0 l (sufA l) := by
  unfold sufA
  refine ⟨ordP_length _ _, fun x hx => ordP_mem.1 hx, ?_⟩
  rw [List.pairwise_iff_getElem]
  intro i j hi hj hij
  rw [ordP_length] at hi hj
  have hr := ordP_rise (sfK l) l.length hij hj
  obtain ⟨p, hp, hpn⟩ := ordP_at (sfK l) l.length hi
  obtain ⟨q, hq, hqn⟩ := ordP_at (sfK l) l.length hj
  rw [hp, hq] at hr
  have e1 : (ordP (sfK l) l.length)[i]'(by rw [ordP_length]; exact hi) = (p : Int) := by
    rw [← hp, List.getD_eq_getElem?_getD, List.getElem?_eq_getElem (by rw [ordP_length]; exact hi), Option.getD_some]
  have e2 : (ordP (sfK l) l.length)[j]'(by rw [ordP_length]; exact hj) = (q : Int) := by
    rw [← hq, List.getD_eq_getElem?_getD, List.getElem?_eq_getElem (by rw [ordP_length]; exact hj), Option.getD_some]
  rw [e1, e2, Int.toNat_natCast, Int.toNat_natCast, ← ltB_sl h, ← sfK_lt h hpn hqn]
  rcases hr with hr | ⟨e, hr⟩
  · exact hr
  · have := sfK_inj h hpn hqn e
    omega
theorem sufA_len (l : List Int) : (sufA l).length = l.length := ordP_length _ _

end Go.Proofs.YtpnjccomngdblaaGreat
end

section
/- The contract of the document's Array. -/
set_option maxRecDepth 100000
namespace Go.Proofs.YtpnjccomngdblaaGreat
open Go.RowKit
open M
attribute [local go_sem ↓] Go.wp_at_zero Go.wp_at_succ

end Go.Proofs.YtpnjccomngdblaaGreat
end

section
/- The contracts of at, slices.Max, different, turned, thirds. -/
set_option maxRecDepth 100000
namespace Go.Proofs.YtpnjccomngdblaaGreat
open Go.RowKit
open M
attribute [local go_sem ↓] Go.wp_at_zero Go.wp_at_succ

theorem at_any (A : Option Addr) (n c p : Nat) (l : List Int) (w : World) (hA : NumsAt .i64 w A l) (hl : l.length = n) :
    Calls Tryz.prog 130 #[.slice A n c, .int .i64 (p : Int)] w fun e w' => e = .returned (.int .i64 (l.getD p (-1))) ∧ w' = w := by
  by_cases hlt : p < n
  · obtain ⟨bb, off, hAe, -, c1⟩ := num_at hA (i := p) (by omega)
    rw [getD_in (b := -1) (by omega)]
    generalize l.getD p 0 = x at *
    subst hAe
    clear hA hl
    have q1 : (p : Int) < (n : Int) := by omega
    have q2 : (0 : Int) ≤ (p : Int) := by omega
    have q3 : ¬ (n : Int) ≤ (p : Int) := by omega
    have q4 : ¬ (p : Int) ≥ (n : Int) := by omega
    go_enter Tryz.func130, Tryz.ntmps130
    go_wp2
    go_ret
    exact ⟨rfl, rfl⟩
  · rw [getD_out (by omega)]
    clear hA hl
    have q3 : (n : Int) ≤ (p : Int) := by omega
    have q4 : (p : Int) ≥ (n : Int) := by omega
    go_enter Tryz.func130, Tryz.ntmps130
    go_wp2
    go_ret
    exact ⟨rfl, rfl⟩

/-- slices.Max. -/
theorem smax_any (A : Option Addr) (n c : Nat) (l : List Int) (w : World) (hA : NumsAt .i64 w A l) (hl : l.length = n) (h0 : 0 < n) (hn : n ≤ 1000000) :
    Calls Tryz.prog 127 #[.slice A n c] w fun e w' => (∃ M, e = .returned (.int .i64 M) ∧ M ∈ l ∧ ∀ x ∈ l, x ≤ M) ∧ w' = w := by
  obtain ⟨bb, off, hAe, hbl, c0⟩ := num_at hA (i := 0) (by omega)
  have hcell : ∀ i, i < n → w.cell? ⟨bb, off + i, none⟩ = some (.int .i64 (l.getD i 0)) := fun i hi => by
    obtain ⟨b2, o2, e2, -, c2⟩ := num_at hA (i := i) (by omega)
    rw [hAe] at e2
    simp only [Option.some.injEq, Addr.mk.injEq, and_true] at e2
    obtain ⟨rfl, rfl⟩ := e2
    exact c2
  have hm0 := memI l 0 (by omega)
  subst hAe
  obtain ⟨x0, hx0⟩ : ∃ x0, l.getD 0 0 = x0 := ⟨_, rfl⟩
  rw [hx0] at c0 hm0
  rw [Nat.add_zero] at c0
  have HX := Lib.hid (And.intro hcell (And.intro hl (And.intro hm0 hx0)))
  clear hA hl hcell hm0 hx0
  have q0 : ¬ (n : Int) < 1 := by omega
  have q00 : (0 : Int) < (n : Int) := by omega
  go_enter Tryz.func127, Tryz.ntmps127
  go_wp2
  go_loopw [3, 4] (fun v3 v4 wr => ∃ (i : Nat) (M : Int), 1 ≤ i ∧ i ≤ n ∧ v4 = .int .i64 (i : Int) ∧ v3 = .int .i64 M ∧ wr = w ∧ M ∈ l ∧ ∀ j, j < i → l.getD j 0 ≤ M) (fun _ v4 _ => n - (intOf v4).toNat)
  case atStart =>
    refine ⟨1, x0, Nat.le_refl _, by omega, rfl, rfl, rfl, HX.out.2.2.1, fun j hj => ?_⟩
    have e : j = 0 := by omega
    rw [e, HX.out.2.2.2]
    exact Int.le_refl _
  case round =>
    obtain ⟨i, M, h1, hin, rfl, rfl, rfl, hmem, hle⟩ := hrel
    by_cases hlt : i < n
    · have ci := HX.out.1 i hlt
      have hmi := memI l i (by rw [HX.out.2.1]; exact hlt)
      obtain ⟨x, hx⟩ : ∃ x, l.getD i 0 = x := ⟨_, rfl⟩
      rw [hx] at ci hmi
      have HH := Lib.hid (And.intro hmem (And.intro hle (And.intro hmi hx)))
      clear hmem hle hmi hx
      have q1 : (i : Int) < (n : Int) := by omega
      have q2 : (0 : Int) ≤ (i : Int) := by omega
      obtain ⟨M2, hM2⟩ : ∃ M2, (if M < x then x else M) = M2 := ⟨_, rfl⟩
      go_wp2
      all_goals
        go_roundw
        case rel =>
          refine ⟨i + 1, M2, by omega, by omega, by go_num, rfl, trivial, ?_, fun j hj => ?_⟩
          · rw [← hM2]
            split
            · exact HH.out.2.2.1
            · exact HH.out.1
          · by_cases e : j = i
            · rw [e, HH.out.2.2.2]; split at hM2 <;> omega
            · have := HH.out.2.1 j (by omega); split at hM2 <;> omega
        case measure => simp [intOf]; omega
    · obtain rfl : i = n := by omega
      have q1 : ¬ (i : Int) < (i : Int) := by omega
      have HH := Lib.hid (And.intro hmem hle)
      clear hmem hle
      go_wp2
      go_ret
      refine ⟨⟨M, rfl, HH.out.1, fun x hx => ?_⟩, rfl⟩
      obtain ⟨j, hj, e⟩ := List.getElem_of_mem hx
      have := HH.out.2 j (by rw [← HX.out.2.1]; exact hj)
      rwa [List.getD_eq_getElem?_getD, List.getElem?_eq_getElem hj, Option.getD_some, e] at this

/-- different. -/
theorem diff_any (A : Option Addr) (n c : Nat) (l : List Int) (w : World) (hA : NumsAt .i64 w A l) (hl : l.length = n) (hn : n ≤ 1000000) (hr : Rk l) :
    Calls Tryz.prog 92 #[.slice A n c] w fun e w' => (∃ r, e = .returned (.bool r) ∧ (r = true ↔ Df l)) ∧ w' = w := by
  by_cases h0 : n = 0
  · subst h0
    have hd : Df l := .inl hl
    have HD := Lib.hid hd
    clear hA hl hr hd
    go_enter Tryz.func92, Tryz.ntmps92
    go_wp2
    go_ret
    exact ⟨⟨true, rfl, fun _ => HD.out, fun _ => rfl⟩, rfl⟩
  · have hm := smax_any A n c l w hA hl (by omega) hn
    have HX := Lib.hid (And.intro hl (And.intro hr hm))
    clear hA hl hr hm
    have q1 : ((n : Int) == 0) = false := by simp; omega
    have q2 : ¬ (n : Int) = 0 := by omega
    have q3 : (n == 0) = false := by simp; omega
    have q4 : IntKind.i64.wrap ((n : Int) - 1) = (n : Int) - 1 := IntWalk.i64_in _ (by omega)
    go_enter Tryz.func92, Tryz.ntmps92
    go_wp2_with fail
    (with_reducible refine HX.out.2.2.mono ?_)
    rintro e u ⟨⟨M, rfl, hM1, hM2⟩, rfl⟩
    have HM := Lib.hid (And.intro hM1 hM2)
    clear hM1 hM2
    obtain ⟨b, hb⟩ : ∃ b, (M == (n : Int) - 1) = b := ⟨_, rfl⟩
    go_wp2
    go_ret
    refine ⟨⟨_, rfl, ?_⟩, rfl⟩
    obtain ⟨hl, hr, -⟩ := HX.out
    subst hb
    rw [beq_iff_eq]
    constructor
    · intro e
      exact .inr (by rw [hl, ← e]; exact HM.out.1)
    · rintro (e | e)
      · omega
      · have h1 := HM.out.2 _ e
        have h2 := (hr.nn M HM.out.1).2
        rw [hl] at h1 h2
        omega

/-- turned, of a row that has each place once. -/
theorem turned_any (A : Option Addr) (n c : Nat) (p : List Int) (w : World) (hA : NumsAt .i64 w A p) (hl : p.length = n) (hn : n ≤ 1000000) (hall : allB p = true) :
    Calls Tryz.prog 94 #[.slice A n c] w fun e u => ∃ D L, L.length = n ∧ e = .returned (.slice (some ⟨D, 0, none⟩) n n) ∧ NumsAt .i64 u (some ⟨D, 0, none⟩) L ∧ (∀ i, i < n → ∃ q : Nat, p.getD i 0 = (q : Int) ∧ q < n ∧ L.getD q 0 = (i : Int)) ∧ Below w.heap.size w u ∧ w.heap.size ≤ D := by
  have hi := inverse_any A n c p w hA hl hn
  have HI := Lib.hid (And.intro hi hall)
  clear hA hl hi hall
  go_enter Tryz.func94, Tryz.ntmps94
  go_wp2_with fail
  (with_reducible refine HI.out.1.mono ?_)
  rintro e u ⟨hb, ⟨-, D, L, hL, rfl, h1, hlo, h2⟩ | ⟨hno, -⟩⟩
  · have HF := Lib.hid (And.intro hb (And.intro hL (And.intro h1 (And.intro h2 hlo))))
    clear hb hL h1 h2 hlo
    go_wp2
    go_ret
    obtain ⟨hb, hL, h1, h2, hlo⟩ := HF.out
    exact ⟨D, L, hL, rfl, h1, h2, hb, hlo⟩
  · rw [HI.out.2] at hno; cases hno

/-! ## Thirds -/
def thS (n r : Nat) : Nat := (n + 3 - r) % 3
def thC (n r : Nat) : Nat := (n + 2 - thS n r) / 3
def thN (n r k : Nat) : List Int := (List.range k).map fun k => ((thS n r + 3 * k : Nat) : Int)
def thL (n r : Nat) : List Int := thN n r (thC n r)
theorem thN_len (n r k : Nat) : (thN n r k).length = k := by simp [thN]
theorem thL_len (n r : Nat) : (thL n r).length = thC n r := thN_len _ _ _
theorem thN_succ (n r k : Nat) : thN n r (k + 1) = thN n r k ++ [((thS n r + 3 * k : Nat) : Int)] := by
  unfold thN
  rw [List.range_succ, List.map_append]; rfl
theorem thL_at (n r k : Nat) (h : k < thC n r) : (thL n r).getD k 0 = ((thS n r + 3 * k : Nat) : Int) := by simp [thL, thN, List.getD_eq_getElem?_getD, h]
theorem thC_iff (n r k : Nat) : k < thC n r ↔ thS n r + 3 * k < n := by
  unfold thC
  have : thS n r < 3 := Nat.mod_lt _ (by omega)
  omega

theorem thirds_any (n r : Nat) (w : World) (hn : n ≤ 1000000) (hr : r ≤ 2) :
    Calls Tryz.prog 153 #[.int .i64 (n : Int), .int .i64 (r : Int)] w fun e u => ∃ v, e = .returned v ∧ OwnI w v (thL n r) u := by
  have h1 : IntKind.i64.wrap ((n : Int) - (r : Int)) = (n : Int) - (r : Int) := IntWalk.i64_in _ (by omega)
  have h2 : IntKind.i64.wrap ((n : Int) - (r : Int) + 3) = (n : Int) - (r : Int) + 3 := IntWalk.i64_in _ (by omega)
  have h3 : ((n : Int) - (r : Int) + 3).tmod 3 = ((thS n r : Nat) : Int) := by
    rw [Int.tmod_eq_emod_of_nonneg (by omega)]
    unfold thS
    omega
  have hs : thS n r < 3 := Nat.mod_lt _ (by omega)
  have hci := thC_iff n r
  have hsu := thN_succ n r
  obtain ⟨s, hse⟩ : ∃ s, thS n r = s := ⟨_, rfl⟩
  rw [hse] at h3 hs hsu hci
  have HX := Lib.hid (And.intro hci hsu)
  clear hci hsu hse
  go_enter Tryz.func153, Tryz.ntmps153
  go_wp2
  go_loopw [5, 6] (fun v5 v6 wr => ∃ k : Nat, k ≤ thC n r ∧ v6 = .int .i64 ((s + 3 * k : Nat) : Int) ∧ OwnI w v5 (thN n r k) wr) (fun _ v6 _ => n + 3 - (intOf v6).toNat)
  case atStart => exact ⟨0, Nat.zero_le _, by simp, World.ownsRow_nil _ _ _ _, Below.refl _ _⟩
  case round =>
    obtain ⟨k, hk, rfl, hI⟩ := hrel
    obtain ⟨x, hx⟩ : ∃ x : Nat, s + 3 * k = x := ⟨_, rfl⟩
    have hcik := HX.out.1 k
    have hln := thN_len n r k
    have hsk := HX.out.2 k
    rw [hx] at hcik hsk ⊢
    have HI := Lib.hid (And.intro hI (And.intro hln (And.intro hsk hx)))
    have hsz := hI.2.size
    clear hI hln hsk hx
    by_cases hlt : k < thC n r
    · have hxn : x < n := hcik.1 hlt
      have q1 : (x : Int) < (n : Int) := by omega
      go_wp2_with (first
        | (at_builtin
           refine wpList_append_nums rfl (.tmp 17) (.tmp 19) rfl w.heap.size _ _ _ rfl (HI.out.1.alloc _).1 (some ⟨_, 0, none⟩) 1 1 [(x : Int)] rfl rfl ?c1 (by simp) ?c2 ?c3 ?_))
      case c1 => exact nums_one _ _
      case c2 => have := HX.out.1 k; rw [HI.out.2.1]; omega
      case c3 => first | omega | (simp; omega)
      intro v' w5 hown hgrow _
      have hI5 := (HI.out.1.alloc _).app (l' := thN n r (k + 1)) (by rw [HI.out.2.2.1]; simpa using hown) hgrow
      have HX5 := Lib.hid hI5
      clear hown hgrow hI5
      go_wp2
      go_roundw
      case rel => exact ⟨k + 1, by omega, by have := HI.out.2.2.2; go_num, HX5.out⟩
      case measure => simp [intOf]; omega
    · obtain rfl : k = thC n r := by omega
      have q1 : ¬ (x : Int) < (n : Int) := by omega
      go_wp2
      go_ret
      exact ⟨_, rfl, HI.out.1⟩

end Go.Proofs.YtpnjccomngdblaaGreat
end

section
/- The contracts of slices.Grow (of nil), slices.Concat (of two) and sample. -/
set_option maxRecDepth 100000
namespace Go.Proofs.YtpnjccomngdblaaGreat
open Go.RowKit
open M
attribute [local go_sem ↓] Go.wp_at_zero Go.wp_at_succ

theorem grow_nil (k : Nat) (w : World) (hk : k ≤ 10000000) : Calls Tryz.prog 162 #[.slice none 0 0, .int .i64 (k : Int)] w fun e u => ∃ v, e = .returned v ∧ OwnI w v [] u := by
  by_cases h0 : k = 0
  · subst h0
    go_enter Tryz.func162, Tryz.ntmps162
    go_wp2
    go_ret
    exact ⟨_, rfl, World.ownsRow_nil _ _ _ _, Below.refl _ _⟩
  · obtain ⟨i0, hi, hz0, hz1, hz2⟩ := info_parts info3
    have hrz : ∀ ty, (Builtin.append_ #[38, 3] ty #[.slice none 0 0, .int .i64 (k : Int)]).run Tryz.prog w = .ok (.slice (some ⟨w.heap.size, 0, none⟩) k (grownCap w k 0 3)) (w.drew.alloc (.cells (Builtin.zeroCells (Value.int .i64 0).cells k ++ Builtin.zeroCells (Value.int .i64 0).cells (grownCap w k 0 3 - k)) 3)) := fun ty =>
      Lib.run_append_nil_zeros w 38 3 ty 3 i0 _ .i64 .i64 Tryz.underlying38 Tryz.underlying3 hi hz0 k (by omega) (by rw [hz1]; omega) (by omega) (by rw [hz2]; omega)
    have hG := grownCap_ge w k 0 3
    have hG2 := grownCap_le_maxLen w k 0 3 (by unfold maxLen; omega)
    generalize grownCap w k 0 3 = G at *
    have hsz : (Builtin.zeroCells (Value.int .i64 0).cells k ++ Builtin.zeroCells (Value.int .i64 0).cells (G - k)).size = G * 1 := by
      simp [Builtin.zeroCells, Value.cells]; omega
    have hown : OwnI w (.slice (some ⟨w.heap.size, 0, none⟩) 0 G) [] (w.drew.alloc (.cells (Builtin.zeroCells (Value.int .i64 0).cells k ++ Builtin.zeroCells (Value.int .i64 0).cells (G - k)) 3)) :=
      ⟨World.ownsRow_made (e := 3) (size := 1) w.drew _ G (Nat.le_refl _) hG2 hsz, ((Below.refl _ w).drew).alloc (Nat.le_refl _) _⟩
    obtain ⟨u, hu⟩ : ∃ u, u = w.drew.alloc (.cells (Builtin.zeroCells (Value.int .i64 0).cells k ++ Builtin.zeroCells (Value.int .i64 0).cells (G - k)) 3) := ⟨_, rfl⟩
    rw [← hu] at hown hrz
    have HO := Lib.hid hown
    clear hu hown hsz hi hz0 hz1 hz2
    unfold maxLen at hG2
    have q1 : ¬ ((k : Int) < 0) := by omega
    have q2 : (0 : Int) < (k : Int) := by omega
    have q3 : IntKind.i64.wrap ((k : Int)) = k := IntWalk.i64_in _ (by omega)
    go_enter Tryz.func162, Tryz.ntmps162
    go_wp2_with (at_builtin; refine Lib.wpList_append_run _ rfl _ _ _ _ rfl _ _ rfl rfl _ _ (hrz _) ?_)
    all_goals
      go_wp2
      go_ret
      exact ⟨_, rfl, HO.out⟩

set_option maxHeartbeats 2000000 in
theorem concat_any (S : Nat) (A B : Option Addr) (n m ca cb : Nat) (a b : List Int) (w : World) (c0 : w.cell? ⟨S, 0, none⟩ = some (.slice A n ca)) (c1 : w.cell? ⟨S, 1, none⟩ = some (.slice B m cb))
    (hA : NumsAt .i64 w A a) (hB : NumsAt .i64 w B b) (hla : a.length = n) (hlb : b.length = m) (hAn : A = none → n = 0 ∧ ca = 0) (hBn : B = none → m = 0 ∧ cb = 0) (hn : n ≤ 1000000) (hm : m ≤ 1000000) :
    Calls Tryz.prog 152 #[.slice (some ⟨S, 0, none⟩) 2 2] w fun e u => ∃ v, e = .returned v ∧ OwnI w v (a ++ b) u := by
  have hgr := grow_nil (n + m) w (by omega)
  rw [Int.natCast_add] at hgr
  have hS := World.block_lt_of_cell? w _ c0
  have HX := Lib.hid (And.intro hA (And.intro hB (And.intro hla (And.intro hlb (And.intro hAn (And.intro hBn (And.intro c0 (And.intro c1 (And.intro hgr hS)))))))))
  clear hA hB hla hlb hAn hBn hgr hS
  have z1 : IntKind.i64.wrap (n : Int) = n := IntWalk.i64_in _ (by omega)
  have z2 : IntKind.i64.wrap ((n : Int) + (m : Int)) = (n : Int) + m := IntWalk.i64_in _ (by omega)
  have z3 : ¬ ((n : Int) < 0) := by omega
  have z4 : ¬ ((n : Int) + (m : Int) < 0) := by omega
  go_enter Tryz.func152, Tryz.ntmps152
  go_wp2
  go_loopw [3, 5, 11] (fun v3 _ v11 wr => wr = w ∧ ((v11 = .int .i64 0 ∧ v3 = .int .i64 0) ∨ (v11 = .int .i64 1 ∧ v3 = .int .i64 (n : Int)) ∨ (v11 = .int .i64 2 ∧ v3 = .int .i64 (((n + m : Nat)) : Int)))) (fun _ _ v11 _ => 2 - (intOf v11).toNat)
  case atStart => exact ⟨rfl, .inl ⟨rfl, rfl⟩⟩
  case round =>
    obtain ⟨rfl, ⟨rfl, rfl⟩ | ⟨rfl, rfl⟩ | ⟨rfl, rfl⟩⟩ := hrel
    · go_wp2
      go_roundw
      case rel => exact ⟨trivial, .inr (.inl ⟨rfl, by go_num⟩)⟩
      case measure => simp [intOf]
    · go_wp2
      go_roundw
      case rel => exact ⟨trivial, .inr (.inr ⟨rfl, by go_num⟩)⟩
      case measure => simp [intOf]
    · clear z1 z2 z3 z4 c0 c1
      obtain ⟨w1, rfl⟩ : ∃ w1, w1 = wr := ⟨_, rfl⟩
      go_wp2_with fail
      (with_reducible refine HX.out.2.2.2.2.2.2.2.2.1.mono ?_)
      rintro e u ⟨v, rfl, hI⟩
      have HI := Lib.hid hI
      clear hI
      go_wp2
      go_loopw [6, 8, 27] (fun v6 _ v27 wq => (v27 = .int .i64 0 ∧ OwnI w1 v6 [] wq) ∨ (v27 = .int .i64 1 ∧ OwnI w1 v6 a wq) ∨ (v27 = .int .i64 2 ∧ OwnI w1 v6 (a ++ b) wq)) (fun _ _ v27 _ => 2 - (intOf v27).toNat)
      case atStart => exact .inl ⟨rfl, HI.out⟩
      case round =>
        obtain ⟨hA, hB, hla, hlb, hAn, hBn, c0, c1, hgr, hS⟩ := HX.out
        rcases hrel with ⟨rfl, hI⟩ | ⟨rfl, hI⟩ | ⟨rfl, hI⟩
        · rw [← hI.2.cell (p := ⟨S, 0, none⟩) hS] at c0
          have hA' := hA.kept hI.2
          have HH := Lib.hid (And.intro hI (And.intro hA' (And.intro hla hAn)))
          have hsz := hI.2.size
          clear HI HX hA hB hla hlb hAn hBn c1 hgr hI hA'
          go_wp2_with (first
            | (at_builtin
               refine wpList_append_nums rfl (.tmp 31) (.tmp 32) rfl w1.heap.size _ _ _ rfl HH.out.1.1 A n ca a rfl HH.out.2.2.1 HH.out.2.1 HH.out.2.2.2 ?c2 ?c3 ?_))
          case c2 => simp; omega
          case c3 => omega
          intro v' w5 hown hgrow _
          have hI5 := HH.out.1.app (l' := a) (by rw [HH.out.2.2.1]; simpa using hown) hgrow
          have HX5 := Lib.hid hI5
          clear hown hgrow hI5
          go_wp2
          go_roundw
          case rel => exact .inr (.inl ⟨rfl, HX5.out⟩)
          case measure => simp [intOf]
        · rw [← hI.2.cell (p := ⟨S, 1, none⟩) hS] at c1
          have hB' := hB.kept hI.2
          have HH := Lib.hid (And.intro hI (And.intro hB' (And.intro hlb (And.intro hBn hla))))
          have hsz := hI.2.size
          clear HI HX hA hB hla hlb hAn hBn c0 hgr hI hB'
          go_wp2_with (first
            | (at_builtin
               refine wpList_append_nums rfl (.tmp 31) (.tmp 32) rfl w1.heap.size _ _ _ rfl HH.out.1.1 B m cb b rfl HH.out.2.2.1 HH.out.2.1 HH.out.2.2.2.1 ?c2 ?c3 ?_))
          case c2 => rw [HH.out.2.2.2.2]; omega
          case c3 => omega
          intro v' w5 hown hgrow _
          have hI5 := HH.out.1.app (l' := a ++ b) (by rw [List.length_append, HH.out.2.2.1]; simpa using hown) hgrow
          have HX5 := Lib.hid hI5
          clear hown hgrow hI5
          go_wp2
          go_roundw
          case rel => exact .inr (.inr ⟨rfl, HX5.out⟩)
          case measure => simp [intOf]
        · have HH := Lib.hid hI
          clear HI HX hA hB hla hlb hAn hBn c0 c1 hgr hI
          go_wp2
          go_ret
          exact ⟨_, rfl, HH.out⟩

/-- The places of the sample. -/
def smp (n : Nat) : List Int := thL n 1 ++ thL n 2
theorem smp_len (n : Nat) : (smp n).length = thC n 1 + thC n 2 := by rw [smp, List.length_append, thL_len, thL_len]
theorem thC_le (n r : Nat) : thC n r ≤ n := by
  unfold thC
  have : thS n r < 3 := Nat.mod_lt _ (by omega)
  omega

theorem nums_nil {k : IntKind} {w : World} {A : Option Addr} {l : List Int} {n : Nat} (h : NumsAt k w A l) (hl : l.length = n) (hA : A = none) : n = 0 := by
  rcases h with h | ⟨_, _, h, _⟩
  · rw [← hl, h]; rfl
  · rw [hA] at h; cases h
theorem sample_any (n : Nat) (w : World) (hn : n ≤ 1000000) : Calls Tryz.prog 128 #[.int .i64 (n : Int)] w fun e u => ∃ v, e = .returned v ∧ OwnI w v (smp n) u := by
  have t1 : ∀ u, Calls Tryz.prog 153 #[.int .i64 (n : Int), .int .i64 1] u fun e u' => ∃ v, e = .returned v ∧ OwnI u v (thL n 1) u' := fun u => thirds_any n 1 u hn (by omega)
  have t2 : ∀ u, Calls Tryz.prog 153 #[.int .i64 (n : Int), .int .i64 2] u fun e u' => ∃ v, e = .returned v ∧ OwnI u v (thL n 2) u' := fun u => thirds_any n 2 u hn (by omega)
  have HT := Lib.hid (And.intro t1 t2)
  clear t1 t2
  go_enter Tryz.func128, Tryz.ntmps128
  go_wp2_with fail
  (with_reducible refine (HT.out.1 _).mono ?_)
  rintro e u1 ⟨v1, rfl, hI1⟩
  have H1 := Lib.hid hI1
  clear hI1
  go_wp2_with fail
  (with_reducible refine (HT.out.2 _).mono ?_)
  rintro e u2 ⟨v2, rfl, hI2⟩
  obtain ⟨A, ca, rfl, hA, hla, -, -, hAn⟩ := nums_of_own H1.out.1
  obtain ⟨B, cb, rfl, hB, hlb, -, -, hBn⟩ := nums_of_own hI2.1
  have hla' := thL_len n 1
  have hlb' := thL_len n 2
  rw [hla', hlb']
  have hb3 : Below u2.heap.size u2 (u2.alloc (.cells #[.slice A (thC n 1) ca, .slice B (thC n 2) cb] 38)) := (Below.refl _ _).alloc (Nat.le_refl _) _
  have hc := concat_any u2.heap.size A B (thC n 1) (thC n 2) ca cb (thL n 1) (thL n 2) (u2.alloc (.cells #[.slice A (thC n 1) ca, .slice B (thC n 2) cb] 38)) (by rw [cell_new _ _ _ _ _ rfl]; rfl) (by rw [cell_new _ _ _ _ _ rfl]; rfl) ((hA.kept hI2.2).kept hb3) (hB.kept hb3) (thL_len _ _) (thL_len _ _) (fun h => ⟨nums_nil hA hla' h, hAn h⟩) (fun h => ⟨nums_nil hB hlb' h, hBn h⟩) (by have := thC_le n 1; omega) (by have := thC_le n 2; omega)
  have HC := Lib.hid (And.intro hc ((H1.out.2.trans (hI2.2.mono H1.out.2.size)).trans (hb3.mono (H1.out.2.trans (hI2.2.mono H1.out.2.size)).size)))
  clear hc hb3 hA hB hI2 hla hlb hAn hBn hla' hlb'
  go_wp2_with fail
  (with_reducible refine HC.out.1.mono ?_)
  rintro e u3 ⟨v, rfl, hI⟩
  have HF := Lib.hid hI
  clear hI
  go_wp2
  go_ret
  exact ⟨v, rfl, own_mono HF.out.1 HC.out.2.size, HC.out.2.trans (HF.out.2.mono HC.out.2.size)⟩

end Go.Proofs.YtpnjccomngdblaaGreat
end

section
/- Plain facts: three numbers at once tell the order of the sample's suffixes; two orders are merged. No program is named here. -/
set_option maxRecDepth 100000
namespace Go.Proofs.YtpnjccomngdblaaGreat
open Go.RowKit
open M

theorem sl_step {b : Int} {l : List Int} {p q : Nat} : sl b l p q ↔ l.getD p b < l.getD q b ∨ (l.getD p b = l.getD q b ∧ sl b l (p + 1) (q + 1)) := by
  constructor
  · rintro ⟨k, h1, h2⟩
    cases k with
    | zero => exact .inl h2
    | succ k =>
      refine .inr ⟨h1 0 (by omega), k, fun m hm => ?_, ?_⟩
      · have := h1 (m + 1) (by omega)
        unfold sf at this ⊢
        rw [show p + 1 + m = p + (m + 1) by omega, show q + 1 + m = q + (m + 1) by omega]; exact this
      · unfold sf at h2 ⊢
        rw [show p + 1 + k = p + (k + 1) by omega, show q + 1 + k = q + (k + 1) by omega]; exact h2
  · rintro (h | ⟨h0, k, h1, h2⟩)
    · exact ⟨0, fun m hm => by omega, h⟩
    · refine ⟨k + 1, fun m hm => ?_, ?_⟩
      · cases m with
        | zero => exact h0
        | succ m =>
          have := h1 m (by omega)
          unfold sf at this ⊢
          rw [show p + (m + 1) = p + 1 + m by omega, show q + (m + 1) = q + 1 + m by omega]; exact this
      · unfold sf at h2 ⊢
        rw [show p + (k + 1) = p + 1 + k by omega, show q + (k + 1) = q + 1 + k by omega]; exact h2

/-- The place of the sample. -/
def plN (n i : Nat) : Nat := if i < thC n 1 then thS n 1 + 3 * i else thS n 2 + 3 * (i - thC n 1)
theorem th_vals (n : Nat) : (thS n 0 < 3 ∧ thS n 1 < 3 ∧ thS n 2 < 3) ∧ (n - thS n 0) % 3 = 0 ∧ (n + 2 - thS n 1) % 3 = 0 ∧ (n + 1 - thS n 2) % 3 = 0 := by
  unfold thS
  omega
theorem smp_at (n i : Nat) (h : i < thC n 1 + thC n 2) : (smp n).getD i 0 = ((plN n i : Nat) : Int) := by
  unfold smp plN
  by_cases e : i < thC n 1
  · rw [if_pos e, ← thL_at n 1 i e]; simp only [List.getD_eq_getElem?_getD]; rw [List.getElem?_append_left (by rw [thL_len]; exact e)]
  · rw [if_neg e, ← thL_at n 2 _ (by omega)]; simp only [List.getD_eq_getElem?_getD]; rw [List.getElem?_append_right (by rw [thL_len]; omega), thL_len]
theorem plN_lt (n i : Nat) (h : i < thC n 1 + thC n 2) : plN n i < n := by
  unfold plN
  split
  · rename_i e; exact (thC_iff n 1 i).1 e
  · exact (thC_iff n 2 _).1 (by omega)
theorem th_sums (n : Nat) : thC n 0 + thC n 1 + thC n 2 = n := by
  have := th_vals n
  unfold thC
  omega
/-- What is known of the sample's places: what they leave by three, the last ones, where none is behind. -/
theorem plN_first (n i : Nat) (h : i < thC n 1) : (n - plN n i) % 3 = 1 := by
  have h1 := (thC_iff n 1 i).1 h
  have := th_vals n
  unfold plN
  rw [if_pos h]
  omega
theorem plN_second (n i : Nat) (h : ¬ i < thC n 1) (h2 : i < thC n 1 + thC n 2) : (n - plN n i) % 3 = 2 := by
  have h1 := (thC_iff n 2 (i - thC n 1)).1 (by omega)
  have := th_vals n
  unfold plN
  rw [if_neg h]
  omega
theorem plN_inj (n i j : Nat) (h : i < thC n 1 + thC n 2) (h2 : j < thC n 1 + thC n 2) (e : plN n i = plN n j) : i = j := by
  by_cases hi : i < thC n 1
  · have a := plN_first n i hi
    by_cases hj : j < thC n 1
    · unfold plN at e
      rw [if_pos hi, if_pos hj] at e
      omega
    · have b := plN_second n j hj h2
      rw [e] at a; omega
  · have a := plN_second n i hi h
    by_cases hj : j < thC n 1
    · have b := plN_first n j hj
      rw [e] at a; omega
    · unfold plN at e
      rw [if_neg hi, if_neg hj] at e
      omega
theorem plN_next (n i : Nat) (h : i + 1 ≠ thC n 1) : plN n (i + 1) = plN n i + 3 := by
  unfold plN
  by_cases e : i < thC n 1
  · rw [if_pos e, if_pos (by omega)]; omega
  · rw [if_neg e, if_neg (by omega)]; omega
theorem plN_last1 (n i : Nat) (h : i + 1 = thC n 1) : plN n i + 1 = n := by
  have h1 := (thC_iff n 1 i).1 (by omega)
  have h2 := thC_iff n 1 (i + 1)
  have := th_vals n
  unfold plN
  rw [if_pos (by omega)]
  omega
theorem plN_end (n : Nat) (h : 2 ≤ n) : plN n (thC n 1 + thC n 2) = n + 1 := by
  have h2 := thC_iff n 2 (thC n 2)
  have h3 := thC_iff n 2 (thC n 2 - 1)
  have := th_vals n
  have h0 : 0 < thC n 2 := by unfold thC; omega
  unfold plN
  rw [if_neg (by omega)]
  omega
/-- Each place that is not of the thirds of rest 0 is of the sample. -/
theorem plN_has (n p : Nat) (hp : p < n) (h : (n - p) % 3 ≠ 0) : ∃ i, i < thC n 1 + thC n 2 ∧ plN n i = p := by
  have hv := th_vals n
  by_cases e : (n - p) % 3 = 1
  · have hk : p = thS n 1 + 3 * ((p - thS n 1) / 3) := by omega
    have hlt := (thC_iff n 1 ((p - thS n 1) / 3)).2 (by omega)
    exact ⟨(p - thS n 1) / 3, by omega, by unfold plN; rw [if_pos hlt]; omega⟩
  · have hk : p = thS n 2 + 3 * ((p - thS n 2) / 3) := by omega
    have hlt := (thC_iff n 2 ((p - thS n 2) / 3)).2 (by omega)
    exact ⟨thC n 1 + (p - thS n 2) / 3, by omega, by unfold plN; rw [if_neg (by omega)]; omega⟩

/-- Three numbers at once. -/
def T3 (l : List Int) (p q : Nat) : Prop := l.getD p (-1) < l.getD q (-1) ∨ (l.getD p (-1) = l.getD q (-1) ∧ (l.getD (p + 1) (-1) < l.getD (q + 1) (-1) ∨ (l.getD (p + 1) (-1) = l.getD (q + 1) (-1) ∧ l.getD (p + 2) (-1) < l.getD (q + 2) (-1))))
def E3 (l : List Int) (p q : Nat) : Prop := l.getD p (-1) = l.getD q (-1) ∧ l.getD (p + 1) (-1) = l.getD (q + 1) (-1) ∧ l.getD (p + 2) (-1) = l.getD (q + 2) (-1)
/-- The level below. -/
structure Bel (row three : List Int) : Prop where
  len : three.length = thC row.length 1 + thC row.length 2
  rk : Rk three
  lt : ∀ i j, i < three.length → j < three.length → (three.getD i 0 < three.getD j 0 ↔ T3 row (plN row.length i) (plN row.length j))
  eq : ∀ i j, i < three.length → j < three.length → (three.getD i 0 = three.getD j 0 ↔ E3 row (plN row.length i) (plN row.length j))

theorem Rk.ge {l : List Int} (h : Rk l) {i : Nat} (hi : i < l.length) : 0 ≤ l.getD i (-1) := (h.nn _ (getD_mem hi)).1

/-- Where the levels' suffixes are alike, so are the row's. -/
theorem Bel.step {row three : List Int} (hr : Rk row) (h : Bel row three) {i j k : Nat} (hne : i ≠ j) (hin : ∀ m, m < k → i + m < three.length ∧ j + m < three.length) (he : ∀ m, m < k → sf (-1) three i m = sf (-1) three j m) :
    ∀ t, t ≤ k → plN row.length (i + t) = plN row.length i + 3 * t ∧ plN row.length (j + t) = plN row.length j + 3 * t := by
  intro t
  induction t with
  | zero => intro _; exact ⟨rfl, rfl⟩
  | succ t ih =>
    intro ht
    obtain ⟨h1, h2⟩ := ih (by omega)
    obtain ⟨hi, hj⟩ := hin t (by omega)
    have e0 := he t (by omega)
    unfold sf at e0
    rw [getD_in hi, getD_in hj] at e0
    obtain ⟨-, e2, -⟩ := (h.eq _ _ hi hj).1 e0
    have li := h.len ▸ hi
    have lj := h.len ▸ hj
    have pi := plN_lt row.length (i + t) li
    have pj := plN_lt row.length (j + t) lj
    have key : ∀ {x y : Nat}, x < thC row.length 1 + thC row.length 2 → y < thC row.length 1 + thC row.length 2 → x ≠ y → row.getD (plN row.length x + 1) (-1) = row.getD (plN row.length y + 1) (-1) → x + 1 ≠ thC row.length 1 := by
      intro x y hx hy hxy e hl
      have hp := plN_last1 row.length x hl
      rw [getD_out (i := plN row.length x + 1) (by omega)] at e
      have hq : row.length ≤ plN row.length y + 1 := Nat.not_lt.1 fun hlt => by have := hr.ge hlt; omega
      have := plN_lt row.length y hy
      exact hxy (plN_inj row.length x y hx hy (by omega))
    have n1 := plN_next row.length (i + t) (key li lj (by omega) e2)
    have n2 := plN_next row.length (j + t) (key lj li (by omega) e2.symm)
    rw [show i + (t + 1) = i + t + 1 by omega, show j + (t + 1) = j + t + 1 by omega, n1, n2, h1, h2]
    omega

theorem Bel.up {row three : List Int} (hr : Rk row) (hn : 2 ≤ row.length) (h : Bel row three) {i j : Nat} (hi : i < three.length) (hj : j < three.length) (hs : sl (-1) three i j) : sl (-1) row (plN row.length i) (plN row.length j) := by
  obtain ⟨k, h1, h2⟩ := hs
  have hne : i ≠ j := by rintro rfl; omega
  have hin := sl_inside h.rk.abv (by omega) (by omega) hne h1
  have hst := h.step hr hne hin h1
  obtain ⟨ek, ek'⟩ := hst k (Nat.le_refl _)
  have hE : ∀ m, m < k → E3 row (plN row.length i + 3 * m) (plN row.length j + 3 * m) := fun m hm => by
    obtain ⟨a, b⟩ := hst m (by omega)
    obtain ⟨c, d⟩ := hin m hm
    have e := h1 m hm
    unfold sf at e
    rw [getD_in c, getD_in d] at e
    rw [← a, ← b]
    exact (h.eq _ _ c d).1 e
  have hbefore : ∀ m, m < 3 * k → sf (-1) row (plN row.length i) m = sf (-1) row (plN row.length j) m := fun m hm => by
    have hm3 : m = 3 * (m / 3) + m % 3 := by omega
    obtain ⟨e0, e1, e2⟩ := hE (m / 3) (by omega)
    have : m % 3 < 3 := Nat.mod_lt _ (by omega)
    unfold sf
    rw [hm3]
    generalize m / 3 = t at *
    generalize m % 3 = r at *
    rcases (show r = 0 ∨ r = 1 ∨ r = 2 by omega) with rfl | rfl | rfl
    · simpa [Nat.add_assoc] using e0
    · simpa [Nat.add_assoc] using e1
    · simpa [Nat.add_assoc] using e2
  have hik : i + k ≤ three.length := by
    cases k with
    | zero => omega
    | succ k => have := hin k (by omega); omega
  have hjk : j + k ≤ three.length := by
    cases k with
    | zero => omega
    | succ k => have := hin k (by omega); omega
  unfold sf at h2
  by_cases hjl : j + k < three.length
  · by_cases hil : i + k < three.length
    · rw [getD_in hil, getD_in hjl, h.lt _ _ hil hjl, ek, ek'] at h2
      rcases h2 with h2 | ⟨e0, h2 | ⟨e1, h2⟩⟩
      · exact ⟨3 * k, hbefore, h2⟩
      · refine ⟨3 * k + 1, fun m hm => ?_, h2⟩
        by_cases e : m < 3 * k
        · exact hbefore m e
        · obtain rfl : m = 3 * k := by omega
          exact e0
      · refine ⟨3 * k + 2, fun m hm => ?_, h2⟩
        by_cases e : m < 3 * k
        · exact hbefore m e
        · rcases (show m = 3 * k ∨ m = 3 * k + 1 by omega) with rfl | rfl
          · exact e0
          · exact e1
    · have hem : i + k = thC row.length 1 + thC row.length 2 := by rw [← h.len]; omega
      have hend := plN_end row.length hn
      rw [← hem, ek] at hend
      have hq := plN_lt row.length (j + k) (h.len ▸ hjl)
      rw [ek'] at hq
      refine ⟨3 * k, hbefore, ?_⟩
      unfold sf
      rw [getD_out (i := plN row.length i + 3 * k) (by omega)]
      have := hr.ge hq
      omega
  · rw [getD_out (i := j + k) (by omega)] at h2
    by_cases hil : i + k < three.length
    · have := h.rk.ge hil; omega
    · rw [getD_out (i := i + k) (by omega)] at h2; omega

theorem Bel.iff {row three : List Int} (hr : Rk row) (hn : 2 ≤ row.length) (h : Bel row three) {i j : Nat} (hi : i < three.length) (hj : j < three.length) : sl (-1) three i j ↔ sl (-1) row (plN row.length i) (plN row.length j) := by
  refine ⟨h.up hr hn hi hj, fun hs => ?_⟩
  by_cases e : i = j
  · subst e; exact absurd hs lx.irr
  · rcases sl_total h.rk.abv (Nat.le_of_lt hi) (Nat.le_of_lt hj) e with h1 | h1
    · exact h1
    · exact absurd hs (h.up hr hn hj hi h1).asymm

/-! ## Two orders -/
def mrg (lt : Int → Int → Bool) (A : List Int) : List Int → List Int
  | [] => A
  | q :: B => A.takeWhile (fun a => lt a q) ++ q :: mrg lt (A.dropWhile fun a => lt a q) B
theorem mrg_perm (lt : Int → Int → Bool) : ∀ (B A : List Int), (mrg lt A B).Perm (A ++ B) := by
  intro B
  induction B with
  | nil => intro A; simp [mrg]
  | cons q B ih =>
    intro A
    unfold mrg
    have h1 := ih (A.dropWhile fun a => lt a q)
    have h2 : (A.takeWhile (fun a => lt a q) ++ q :: mrg lt (A.dropWhile fun a => lt a q) B).Perm (A.takeWhile (fun a => lt a q) ++ q :: (A.dropWhile (fun a => lt a q) ++ B)) := List.Perm.append_left _ (h1.cons q)
    refine h2.trans ?_
    refine ((List.perm_middle (a := q) (l₁ := A.takeWhile fun a => lt a q) (l₂ := A.dropWhile (fun a => lt a q) ++ B)).trans ?_)
    rw [← List.append_assoc, List.takeWhile_append_dropWhile]
    exact List.perm_middle.symm
theorem mrg_pw {R : Int → Int → Prop} {lt : Int → Int → Bool} (tr : ∀ x y z, R x y → R y z → R x z) : ∀ (B A : List Int), (∀ a ∈ A, ∀ q ∈ B, (lt a q = true → R a q) ∧ (lt a q = false → R q a)) → A.Pairwise R → B.Pairwise R → (mrg lt A B).Pairwise R := by
  intro B
  induction B with
  | nil => intro A _ hA _; exact hA
  | cons q B ih =>
    intro A h hA hB
    unfold mrg
    rw [List.pairwise_cons] at hB
    have hd : ∀ a ∈ A.dropWhile (fun a => lt a q), a ∈ A := fun a ha => (List.dropWhile_sublist _).mem ha
    have ht : ∀ a ∈ A.takeWhile (fun a => lt a q), a ∈ A ∧ lt a q = true := fun a ha => ⟨(List.takeWhile_sublist _).mem ha, by have := List.all_takeWhile (p := fun a => lt a q) (l := A); rw [List.all_eq_true] at this; exact this a ha⟩
    have hdn : ∀ a ∈ A.dropWhile (fun a => lt a q), R q a := by
      intro a ha
      have hpw := hA.sublist (List.dropWhile_sublist fun a => lt a q)
      cases hdr : A.dropWhile (fun a => lt a q) with
      | nil => rw [hdr] at ha; simp at ha
      | cons c t =>
        have hc : lt c q = false := by
          have := List.head?_dropWhile_not (fun a => lt a q) A
          rw [hdr] at this
          simpa using this
        have hcm : c ∈ A := hd c (by rw [hdr]; simp)
        have hqc := (h c hcm q (by simp)).2 hc
        rw [hdr] at ha hpw
        rcases List.mem_cons.1 ha with e | e
        · rw [e]; exact hqc
        · exact tr _ _ _ hqc ((List.pairwise_cons.1 hpw).1 a e)
    have hrec := ih (A.dropWhile fun a => lt a q) (fun a ha b hb => h a (hd a ha) b (by simp [hb])) (hA.sublist (List.dropWhile_sublist _)) hB.2
    have hqm : ∀ x ∈ mrg lt (A.dropWhile fun a => lt a q) B, R q x := fun x hx => by
      rcases List.mem_append.1 ((mrg_perm lt B _).mem_iff.1 hx) with e | e
      · exact hdn x e
      · exact hB.1 x e
    rw [List.pairwise_append]
    refine ⟨hA.sublist (List.takeWhile_sublist _), List.pairwise_cons.2 ⟨hqm, hrec⟩, ?_⟩
    intro a ha x hx
    have haq := (h a (ht a ha).1 q (by simp)).1 (ht a ha).2
    rcases List.mem_cons.1 hx with e | e
    · rw [e]; exact haq
    · exact tr _ _ _ haq (hqm x e)

end Go.Proofs.YtpnjccomngdblaaGreat
end

section
/- The contract of below. -/
set_option maxRecDepth 100000
namespace Go.Proofs.YtpnjccomngdblaaGreat
open Go.RowKit
open M
attribute [local go_sem ↓] Go.wp_at_zero Go.wp_at_succ

/-- How many places the sample has. -/
def smpN (n : Nat) : Nat := thC n 1 + thC n 2
def colL (l : List Int) (n r : Nat) : List Int := (List.range (smpN n)).map fun i => l.getD (plN n i + r) (-1)
theorem colL_len (l : List Int) (n r : Nat) : (colL l n r).length = smpN n := by simp [colL]
theorem colL_at (l : List Int) (n r i : Nat) (h : i < smpN n) : (colL l n r).getD i 0 = l.getD (plN n i + r) (-1) := by simp [colL, List.getD_eq_getElem?_getD, h]
theorem smpN_le (n : Nat) : smpN n ≤ n := by have := th_sums n; unfold smpN; omega

set_option maxHeartbeats 2000000 in
theorem col_any (bq bp : Nat) (A P : Option Addr) (n c m cP r : Nat) (l : List Int) (w u : World) (hA : KX w bp A n c l u) (hP : KX w bq P m cP (smp n) u) (hm : m = smpN n) (hn : n ≤ 1000000) (hr : r ≤ 2) :
    Calls Tryz.prog 129 #[.int .i64 (r : Int), .pointer (some ⟨bq, 0, none⟩), .pointer (some ⟨bp, 0, none⟩)] u fun e u' => ∃ D, e = .returned (.slice (some ⟨D, 0, none⟩) m m) ∧ NumsAt .i64 u' (some ⟨D, 0, none⟩) (colL l n r) ∧ Below u.heap.size u u' := by
  have hmn := smpN_le n
  have cP := hP.c0
  have cA := hA.c0
  have HX := Lib.hid (And.intro hA (And.intro hP hm))
  obtain ⟨i0, hi, hz0, hz1, hz2⟩ := info_parts info3
  have hm6 : m ≤ 1000000 := by omega
  clear hA hP hm
  go_enter Tryz.func129, Tryz.ntmps129
  go_wp2_with (first | (at_make; refine wpList_make_full _ rfl _ _ 38 rfl u.heap.size 3 i0 (.int .i64 0) 1 Tryz.underlying38 hi hz0 hz1 _ _ _ _ m rfl rfl rfl rfl ?b2 ?b3 (Nat.le_refl _) ?_))
  case b2 => first | omega | (rw [hz2]; omega)
  case b3 => unfold maxLen; omega
  intro w1 hown hgrow
  have hD := DI.made (Below.refl _ _) hown hgrow
  have hP1 := (HX.out.2.1.kept hD.bel).c0
  have HD := Lib.hid hD
  clear hown hgrow hD hi hz0 hz1 hz2 cP cA
  obtain ⟨D, hDe⟩ : ∃ D, D = u.heap.size := ⟨_, rfl⟩
  rw [← hDe] at HD
  rw [← hDe]
  clear hDe
  go_wp2
  go_loopw [6, 7, 13] (fun _ _ v13 wr => ∃ k : Nat, k ≤ m ∧ v13 = .int .i64 (k : Int) ∧ DI u D m (fun j => if j < k then l.getD (plN n j + r) (-1) else 0) wr) (fun _ _ v13 _ => m - (intOf v13).toNat)
  case atStart => exact ⟨0, Nat.zero_le _, rfl, HD.out.congr fun i _ => by simp⟩
  case round =>
    obtain ⟨k, hk, rfl, hDr⟩ := hrel
    clear HD hP1
    by_cases hlt : k < m
    · have hA := HX.out.1.kept hDr.bel
      have hP := HX.out.2.1.kept hDr.bel
      obtain ⟨bb, off, hPe, -, cpk⟩ := num_at hP.nums (i := k) (by rw [hP.len]; exact hlt)
      rw [smp_at n k (by rw [HX.out.2.2] at hlt; exact hlt)] at cpk
      have hpl := plN_lt n k (by rw [HX.out.2.2] at hlt; exact hlt)
      have cA := hA.c0
      have cell := hDr.cell k hlt
      have frz := hDr.frz k hlt
      have hat := at_any A n c (plN n k + r) l wr hA.nums hA.len
      rw [Int.natCast_add] at hat
      have hset := hDr.set hlt (l.getD (plN n k + r) (-1))
      obtain ⟨y, hy⟩ : ∃ y, l.getD (plN n k + r) (-1) = y := ⟨_, rfl⟩
      rw [hy] at hset hat
      have HS := Lib.hid (And.intro hset (And.intro hat hy))
      subst hPe
      clear hset hat hDr hP hA hy
      obtain ⟨p, hp⟩ : ∃ p, plN n k = p := ⟨_, rfl⟩
      rw [hp] at hpl cpk HS
      have HPE := Lib.hid hp
      clear hp
      have q1 : (k : Int) < (m : Int) := by omega
      have q2 : (0 : Int) ≤ (k : Int) := by omega
      have q3 : IntKind.i64.wrap ((p : Int) + (r : Int)) = (p : Int) + (r : Int) := IntWalk.i64_in _ (by omega)
      go_wp2_with fail
      (with_reducible refine HS.out.2.1.mono ?_)
      rintro e u2 ⟨rfl, rfl⟩
      go_wp2
      go_roundw
      case rel =>
        refine ⟨k + 1, by omega, by go_num, HS.out.1.congr fun j hj => ?_⟩
        by_cases e : j = k
        · rw [if_pos e, if_pos (by omega), ← HS.out.2.2, e, HPE.out]
        · rw [if_neg e]
          by_cases e2 : j < k
          · rw [if_pos e2, if_pos (by omega)]
          · rw [if_neg e2, if_neg (by omega)]
      case measure => simp [intOf]; omega
    · obtain rfl : k = m := by omega
      have HF := Lib.hid hDr
      clear hDr
      have q1 : ¬ (k : Int) < (k : Int) := by omega
      go_wp2
      go_ret
      refine ⟨D, rfl, HF.out.nums (by rw [colL_len]; exact HX.out.2.2.symm) (fun j hj => ?_), HF.out.bel⟩
      rw [if_pos hj, colL_at _ _ _ _ (by rw [← HX.out.2.2]; exact hj)]

theorem pair_lt {a b : List Int} {n : Nat} (hb : b.length = n) (h64 : I64s b) {x y : Nat} (hx : x < n) (hy : y < n) : kyP a b x < kyP a b y ↔ a.getD x 0 < a.getD y 0 ∨ (a.getD x 0 = a.getD y 0 ∧ b.getD x 0 < b.getD y 0) := by
  have h1 := ky_in h64 (x := (x : Int)) (by omega)
  have h2 := ky_in h64 (x := (y : Int)) (by omega)
  unfold kyP
  unfold kyI at h1 h2 ⊢
  rw [Int.toNat_natCast] at h1 h2 ⊢
  rw [Int.toNat_natCast]
  omega
theorem rk_i64 {l : List Int} (h : Rk l) (hn : l.length ≤ 1000000) : I64s l := fun x hx => by have := h.nn x hx; omega
theorem col_i64 {l : List Int} (h : Rk l) (n r : Nat) (hn : l.length ≤ 1000000) : I64s (colL l n r) := by
  intro x hx
  unfold colL at hx
  obtain ⟨i, -, rfl⟩ := List.mem_map.1 hx
  by_cases e : plN n i + r < l.length
  · have := h.nn _ (getD_mem (b := -1) e); omega
  · rw [getD_out (by omega)]; omega

/-- Ranks of three columns are the level below. -/
theorem bel_made {l : List Int} {n : Nat} (h : Rk l) (hl : l.length = n) (hn : n ≤ 1000000) : Bel l (rnkL (kyP (rnkL (kyP (colL l n 0) (colL l n 1)) (smpN n)) (colL l n 2)) (smpN n)) := by
  have hm := smpN_le n
  have c1 := col_i64 h n 1 (by omega)
  have c2 := col_i64 h n 2 (by omega)
  refine ⟨by rw [rnkL_length, hl]; rfl, rnk_rk _ _, fun i j hi hj => ?_, fun i j hi hj => ?_⟩
  all_goals
    rw [rnkL_length] at hi hj
    have r1 := rnk_lt (kyP (rnkL (kyP (colL l n 0) (colL l n 1)) (smpN n)) (colL l n 2)) (smpN n) hi hj
    have r2 := rnk_lt (kyP (colL l n 0) (colL l n 1)) (smpN n) hi hj
    have p1 := pair_lt (a := rnkL (kyP (colL l n 0) (colL l n 1)) (smpN n)) (colL_len l n 2) c2 hi hj
    have p2 := pair_lt (a := colL l n 0) (colL_len l n 1) c1 hi hj
    have e1 := pair_eq (a := rnkL (kyP (colL l n 0) (colL l n 1)) (smpN n)) (colL_len l n 2) c2 hi hj
    have e2 := pair_eq (a := colL l n 0) (colL_len l n 1) c1 hi hj
    rw [colL_at l n 0 i hi, colL_at l n 0 j hj, colL_at l n 1 i hi, colL_at l n 1 j hj] at p2 e2
    rw [colL_at l n 2 i hi, colL_at l n 2 j hj] at p1 e1
    rw [Nat.add_zero, Nat.add_zero] at p2 e2
    rw [hl]
    first | unfold T3 | unfold E3
    generalize rnkL (kyP (rnkL (kyP (colL l n 0) (colL l n 1)) (smpN n)) (colL l n 2)) (smpN n) = t3 at *
    generalize rnkL (kyP (colL l n 0) (colL l n 1)) (smpN n) = t2 at *
    generalize l.getD (plN n i) (-1) = a0 at *
    generalize l.getD (plN n j) (-1) = d0 at *
    generalize l.getD (plN n i + 1) (-1) = a1 at *
    generalize l.getD (plN n j + 1) (-1) = d1 at *
    generalize l.getD (plN n i + 2) (-1) = a2 at *
    generalize l.getD (plN n j + 2) (-1) = d2 at *
    rcases r1 with ⟨r1, r1'⟩
    rcases r2 with ⟨r2, r2'⟩
  · rw [r1, p1, r2, r2', p2, e2]
    constructor
    · rintro ((h | ⟨h, k⟩) | ⟨⟨h, k⟩, q⟩)
      · exact .inl h
      · exact .inr ⟨h, .inl k⟩
      · exact .inr ⟨h, .inr ⟨k, q⟩⟩
    · rintro (h | ⟨h, k | ⟨k, q⟩⟩)
      · exact .inl (.inl h)
      · exact .inl (.inr ⟨h, k⟩)
      · exact .inr ⟨⟨h, k⟩, q⟩
  · rw [r1', e1, r2', e2]
    exact ⟨fun ⟨⟨a, b⟩, c⟩ => ⟨a, b, c⟩, fun ⟨a, b, c⟩ => ⟨⟨a, b⟩, c⟩⟩

theorem KX.of {w w1 u : World} {kb : Nat} {K : Option Addr} {n cK : Nat} {keys : List Int} (h : KX w1 kb K n cK keys u) (hb : Below w.heap.size w w1) : KX w kb K n cK keys u :=
  ⟨h.c0, h.nums, h.len, hb.trans (h.bel.mono hb.size)⟩
/-- A row and the sample's places, each in its box. -/
structure BX (w : World) (bp bq : Nat) (A P : Option Addr) (n c m cP : Nat) (l : List Int) (u : World) : Prop where
  a : KX w bp A n c l u
  p : KX w bq P m cP (smp n) u
theorem BX.kept {w u u' : World} {bp bq : Nat} {A P : Option Addr} {n c m cP : Nat} {l : List Int} (h : BX w bp bq A P n c m cP l u) (hb : Below u.heap.size u u') : BX w bp bq A P n c m cP l u' := ⟨h.a.kept hb, h.p.kept hb⟩

set_option maxHeartbeats 2000000 in
theorem below_any (A : Option Addr) (n c : Nat) (l : List Int) (w : World) (hA : NumsAt .i64 w A l) (hl : l.length = n) (hn : n ≤ 1000000) (hr : Rk l) :
    Calls Tryz.prog 93 #[.slice A n c] w fun e u => ∃ D three, e = .returned (.slice (some ⟨D, 0, none⟩) (smpN n) (smpN n)) ∧ NumsAt .i64 u (some ⟨D, 0, none⟩) three ∧ Bel l three ∧ Below w.heap.size w u := by
  have hA0 := KX.new w A n c l hA hl
  obtain ⟨bp, hbp⟩ : ∃ bp, bp = w.heap.size := ⟨_, rfl⟩
  obtain ⟨w0, hw0⟩ : ∃ w0, w0 = w.alloc (.cells #[.slice A n c] 38) := ⟨_, rfl⟩
  rw [← hw0, ← hbp] at hA0
  have hsm := sample_any n w0 hn
  have hbm := bel_made hr hl hn
  have c1 := col_i64 hr n 1 (by omega)
  have c0' := col_i64 hr n 0 (by omega)
  have c2 := col_i64 hr n 2 (by omega)
  have HX := Lib.hid (And.intro hA0 (And.intro hsm (And.intro hbm (And.intro c0' (And.intro c1 c2)))))
  have hmn := smpN_le n
  clear hA hl hr hsm hbm c0' c1 c2
  go_enter Tryz.func93, Tryz.ntmps93
  go_upto_region 1 with fail
  rw [← hw0, ← hbp]
  clear hw0 hbp
  have c0 := hA0.c0
  clear hA0
  go_wp2_with fail
  (with_reducible refine HX.out.2.1.mono ?_)
  rintro e u1 ⟨v, rfl, hI⟩
  obtain ⟨P, cP, rfl, hP, hPl, -, -, -⟩ := nums_of_own hI.1
  rw [smp_len, show thC n 1 + thC n 2 = smpN n from rfl]
  rw [smp_len, show thC n 1 + thC n 2 = smpN n from rfl] at hPl
  obtain ⟨m, hm⟩ : ∃ m, m = smpN n := ⟨_, rfl⟩
  rw [← hm] at hPl hmn ⊢
  have hA1 := HX.out.1.kept hI.2
  have hP1 := (KX.new u1 P m cP (smp n) hP (by rw [smp_len]; exact hm.symm)).of hA1.bel
  have hA2 := hA1.kept (al u1 (.cells #[.slice P m cP] 38))
  have hB : BX w bp u1.heap.size A P n c m cP l (u1.alloc (.cells #[.slice P m cP] 38)) := ⟨hA2, hP1⟩
  have HB := Lib.hid hB
  have cl : ∀ (r : Nat), r ≤ 2 → ∀ u, BX w bp u1.heap.size A P n c m cP l u → Calls Tryz.prog 129 #[.int .i64 (r : Int), .pointer (some ⟨u1.heap.size, 0, none⟩), .pointer (some ⟨bp, 0, none⟩)] u fun e u' => ∃ D, e = .returned (.slice (some ⟨D, 0, none⟩) m m) ∧ NumsAt .i64 u' (some ⟨D, 0, none⟩) (colL l n r) ∧ Below u.heap.size u u' := fun r hr u h => col_any _ bp A P n c m cP r l w u h.a h.p hm hn hr
  have cl0 : ∀ u, BX w bp u1.heap.size A P n c m cP l u → Calls Tryz.prog 129 #[.int .i64 0, .pointer (some ⟨u1.heap.size, 0, none⟩), .pointer (some ⟨bp, 0, none⟩)] u fun e u' => ∃ D, e = .returned (.slice (some ⟨D, 0, none⟩) m m) ∧ NumsAt .i64 u' (some ⟨D, 0, none⟩) (colL l n 0) ∧ Below u.heap.size u u' := cl 0 (by omega)
  have cl1 : ∀ u, BX w bp u1.heap.size A P n c m cP l u → Calls Tryz.prog 129 #[.int .i64 1, .pointer (some ⟨u1.heap.size, 0, none⟩), .pointer (some ⟨bp, 0, none⟩)] u fun e u' => ∃ D, e = .returned (.slice (some ⟨D, 0, none⟩) m m) ∧ NumsAt .i64 u' (some ⟨D, 0, none⟩) (colL l n 1) ∧ Below u.heap.size u u' := cl 1 (by omega)
  have cl2 : ∀ u, BX w bp u1.heap.size A P n c m cP l u → Calls Tryz.prog 129 #[.int .i64 2, .pointer (some ⟨u1.heap.size, 0, none⟩), .pointer (some ⟨bp, 0, none⟩)] u fun e u' => ∃ D, e = .returned (.slice (some ⟨D, 0, none⟩) m m) ∧ NumsAt .i64 u' (some ⟨D, 0, none⟩) (colL l n 2) ∧ Below u.heap.size u u' := cl 2 (by omega)
  have HC := Lib.hid (And.intro cl0 (And.intro cl1 cl2))
  have HM := Lib.hid hm
  clear hI hP hPl hA1 hP1 hA2 hB cl cl0 cl1 cl2 hm
  go_upto_region 3 with fail
  clear c0
  obtain ⟨u2, hu2⟩ : ∃ u2, u2 = u1.alloc (.cells #[.slice P m cP] 38) := ⟨_, rfl⟩
  rw [← hu2] at HB ⊢
  clear hu2
  generalize u1.heap.size = bq at *
  go_wp2_with fail
  (with_reducible refine (HC.out.1 _ HB.out).mono ?_)
  rintro e u3 ⟨D0, rfl, h1, h2⟩
  have HB3 := Lib.hid (And.intro (HB.out.kept h2) h1)
  clear h1 h2
  go_wp2_with fail
  (with_reducible refine (HC.out.2.1 _ HB3.out.1).mono ?_)
  rintro e u4 ⟨D1, rfl, h1, h2⟩
  have hp := pairs_any (some ⟨D0, 0, none⟩) (some ⟨D1, 0, none⟩) m m m (colL l n 0) (colL l n 1) u4 (HB3.out.2.kept h2) h1 (by rw [colL_len]; exact HM.out.symm) (by rw [colL_len]; exact HM.out.symm) (by omega) HX.out.2.2.2.1 HX.out.2.2.2.2.1
  have HB4 := Lib.hid (And.intro (HB3.out.1.kept h2) hp)
  clear h1 h2 hp
  go_wp2_with fail
  (with_reducible refine HB4.out.2.mono ?_)
  rintro e u5 ⟨D2, rfl, h1, h2⟩
  have HB5 := Lib.hid (And.intro (HB4.out.1.kept h2) h1)
  clear h1 h2
  go_wp2_with fail
  (with_reducible refine (HC.out.2.2 _ HB5.out.1).mono ?_)
  rintro e u6 ⟨D3, rfl, h1, h2⟩
  have hp := pairs_any (some ⟨D2, 0, none⟩) (some ⟨D3, 0, none⟩) m m m (rnkL (kyP (colL l n 0) (colL l n 1)) m) (colL l n 2) u6 (HB5.out.2.kept h2) h1 (rnkL_length _ _) (by rw [colL_len]; exact HM.out.symm) (by omega) (rk_i64 (rnk_rk _ _) (by rw [rnkL_length]; omega)) HX.out.2.2.2.2.2
  have HB6 := Lib.hid (And.intro (HB5.out.1.kept h2) hp)
  clear h1 h2 hp
  go_wp2_with fail
  (with_reducible refine HB6.out.2.mono ?_)
  rintro e u7 ⟨D4, rfl, h1, h2⟩
  have HB7 := Lib.hid (And.intro (HB6.out.1.kept h2) h1)
  clear h1 h2
  go_wp2
  go_ret
  refine ⟨D4, _, by rw [← HM.out]; rfl, HB7.out.2, ?_, HB7.out.1.a.bel⟩
  have := HX.out.2.2.1
  rw [← HM.out] at this
  exact this

end Go.Proofs.YtpnjccomngdblaaGreat
end

section
/- The contract of merged. -/
set_option maxRecDepth 100000
namespace Go.Proofs.YtpnjccomngdblaaGreat
open Go.RowKit
open M
attribute [local go_sem ↓] Go.wp_at_zero Go.wp_at_succ

def lenOf : Value → Nat
  | .slice _ n _ => n
  | _ => 0
theorem mrg_take {lt : Int → Int → Bool} {x q : Int} {X B : List Int} (h : lt x q = true) : mrg lt (x :: X) (q :: B) = x :: mrg lt X (q :: B) := by
  unfold mrg
  rw [List.takeWhile_cons, List.dropWhile_cons, h]
  rfl
theorem mrg_skip {lt : Int → Int → Bool} {x q : Int} {X B : List Int} (h : lt x q = false) : mrg lt (x :: X) (q :: B) = q :: mrg lt (x :: X) B := by
  conv => lhs; unfold mrg
  rw [List.takeWhile_cons, List.dropWhile_cons, h]
  rfl
theorem mrg_none {lt : Int → Int → Bool} {q : Int} {B : List Int} : mrg lt [] (q :: B) = q :: mrg lt [] B := by
  conv => lhs; unfold mrg
  rfl
theorem mrg_len (lt : Int → Int → Bool) (A B : List Int) : (mrg lt A B).length = A.length + B.length := by rw [(mrg_perm lt B A).length_eq, List.length_append]

/-- What is asked of the closure. -/
def LessC (w : World) (p5 p2 p8 : Value) (a b : List Int) (lt : Int → Int → Bool) : Prop :=
  ∀ u, Below w.heap.size w u → ∀ x ∈ a, ∀ y ∈ b, Calls Tryz.prog 133 #[.int .i64 x, .int .i64 y, p5, p2, p8] u fun e u' => e = .returned (.bool (lt x y)) ∧ ∃ q, u' = u.drewN q

set_option maxHeartbeats 4000000 in
theorem merged_any (A B : Option Addr) (na ca nb cb : Nat) (a b : List Int) (p5 p2 p8 : Value) (lt : Int → Int → Bool) (w : World) (hA : NumsAt .i64 w A a) (hB : NumsAt .i64 w B b) (hla : a.length = na) (hlb : b.length = nb) (hca : na ≤ ca) (hAn : A = none → na = 0 ∧ ca = 0)
    (hna : na ≤ 1000000) (hnb : nb ≤ 1000000) (hC : LessC w p5 p2 p8 a b lt) :
    Calls Tryz.prog 134 #[.slice A na ca, .slice B nb cb, .func (.func 133) #[] #[p5, p2, p8]] w fun e u => ∃ v, e = .returned v ∧ OwnI w v (mrg lt a b) u := by
  have hlen := mrg_len lt a b
  rw [hla, hlb] at hlen
  obtain ⟨M, hM⟩ : ∃ M, mrg lt a b = M := ⟨_, rfl⟩
  rw [hM] at hlen ⊢
  have HX := Lib.hid (And.intro hB (And.intro hlb (And.intro hC (And.intro hM (And.intro hlen hla)))))
  have HA := Lib.hid (And.intro hA (And.intro hAn hca))
  obtain ⟨i0, hi, hz0, hz1, hz2⟩ := info_parts info3
  clear hB hlb hC hM hlen hla hA hAn hca
  have z1 : IntKind.i64.wrap ((na : Int) + (nb : Int)) = (na : Int) + nb := IntWalk.i64_in _ (by omega)
  go_enter Tryz.func134, Tryz.ntmps134
  go_wp2_with (first | (at_make; refine wpList_make_own _ rfl _ _ 38 rfl w.heap.size 3 i0 (.int .i64 0) 1 Tryz.underlying38 hi hz0 hz1 _ _ _ (na + nb) rfl rfl (by omega) ?b2 ?b3 (Nat.le_refl _) ?_))
  case b2 => first | omega | (rw [hz2]; omega)
  case b3 => unfold maxLen; omega
  intro w1 hown hgrow
  have hO : OwnI w (.slice (some ⟨w.heap.size, 0, none⟩) 0 (na + nb)) [] w1 := ⟨hown, below_grown hgrow⟩
  have HO := Lib.hid hO
  clear hown hgrow hO hi hz0 hz1 hz2
  obtain ⟨D, hDe⟩ : ∃ D, D = w.heap.size := ⟨_, rfl⟩
  rw [← hDe] at HO
  rw [← hDe]
  clear hDe
  go_wp2
  go_loopw [0, 7, 9, 18] (fun v0 v7 _ v18 wr => ∃ (k t : Nat) (done : List Int) (A' : Option Addr) (c' : Nat), k ≤ nb ∧ t ≤ na ∧ v18 = .int .i64 (k : Int) ∧ v0 = .slice A' (na - t) c' ∧ na - t ≤ c' ∧ NumsAt .i64 w A' (a.drop t) ∧ (A' = none → na - t = 0 ∧ c' = 0) ∧ OwnI w v7 done wr ∧ done ++ mrg lt (a.drop t) (b.drop k) = M) (fun _ _ _ v18 _ => nb - (intOf v18).toNat)
  case atStart => exact ⟨0, 0, [], A, ca, Nat.zero_le _, Nat.zero_le _, rfl, rfl, HA.out.2.2, HA.out.1, HA.out.2.1, HO.out, HX.out.2.2.2.1⟩
  case round =>
    obtain ⟨k, t, done, A', c', hk, ht, rfl, rfl, hc', hA, hAn, hI, he⟩ := hrel
    have hdl : done.length ≤ na + nb := by
      have := HX.out.2.2.2.2.1
      rw [← he, List.length_append] at this
      omega
    have hsz := hI.2.size
    by_cases hlt : k < nb
    · obtain ⟨bb, off, hBe, hbl, ck⟩ := num_at HX.out.1 (i := k) (by rw [HX.out.2.1]; exact hlt)
      rw [at_drop (l := b) (i := k) (by rw [HX.out.2.1]; exact hlt)] at he
      have hqm := memI b k (by rw [HX.out.2.1]; exact hlt)
      obtain ⟨q, hq⟩ : ∃ q, b.getD k 0 = q := ⟨_, rfl⟩
      rw [hq] at ck he hqm
      rw [← hI.2.cell (p := ⟨bb, off + k, none⟩) hbl] at ck
      subst hBe
      obtain ⟨w2, rfl⟩ : ∃ w2, w2 = wr := ⟨_, rfl⟩
      have HH := Lib.hid (And.intro hA (And.intro hAn (And.intro hI (And.intro he (And.intro hqm hc')))))
      clear hA hAn hI he hq hqm hdl HO hc'
      have q1 : (k : Int) < (nb : Int) := by omega
      have q2 : (0 : Int) ≤ (k : Int) := by omega
      go_wp2
      go_loopw [0, 7] (fun v0 v7 wr => ∃ (t : Nat) (done : List Int) (A' : Option Addr) (c' : Nat), t ≤ na ∧ v0 = .slice A' (na - t) c' ∧ na - t ≤ c' ∧ NumsAt .i64 w A' (a.drop t) ∧ (A' = none → na - t = 0 ∧ c' = 0) ∧ OwnI w v7 done wr ∧ done ++ mrg lt (a.drop t) (q :: b.drop (k + 1)) = M) (fun v0 _ _ => lenOf v0)
      case atStart => exact ⟨t, done, A', c', ht, rfl, HH.out.2.2.2.2.2, HH.out.1, HH.out.2.1, HH.out.2.2.1, HH.out.2.2.2.1⟩
      case round =>
        obtain ⟨t, done, A', c', ht, rfl, hc', hA, hAn, hI, he⟩ := hrel
        have hdl : done.length ≤ na + nb := by
          have := HX.out.2.2.2.2.1
          rw [← he, List.length_append] at this
          omega
        have hqm := HH.out.2.2.2.2.1
        have hsz := hI.2.size
        have hal := HX.out.2.2.2.2.2
        by_cases h0 : t < na
        · obtain ⟨r, hr⟩ : ∃ r, na - t = r + 1 := ⟨na - t - 1, by omega⟩
          obtain ⟨xa, xo, hAe, hxl, cx⟩ := num_at hA (i := 0) (by rw [List.length_drop]; omega)
          subst hAe
          have hxe : (a.drop t).getD 0 0 = a.getD t 0 := by simp [List.getD_eq_getElem?_getD]
          have hxm := memI a t (by omega)
          rw [hxe, Nat.add_zero] at cx
          have had := at_drop (l := a) (i := t) (by omega)
          have hA1 := hA.drop 1
          rw [List.drop_drop] at hA1
          rw [had] at he
          obtain ⟨x, hx⟩ : ∃ x, a.getD t 0 = x := ⟨_, rfl⟩
          rw [hx] at cx he hxm had
          rw [← hI.2.cell (p := ⟨xa, xo, none⟩) hxl] at cx
          have hcl := HX.out.2.2.1 wr hI.2 x hxm q hqm
          rw [hr] at hc' hAn ⊢
          obtain ⟨cp, rfl⟩ : ∃ cp, c' = cp + 1 := ⟨c' - 1, by omega⟩
          have q3 : (0 : Int) < (r : Int) + 1 := by omega
          have q4 : (1 : Int) ≤ (r : Int) + 1 := by omega
          have q5 : (1 : Int) ≤ (cp : Int) + 1 := by omega
          have q6 : r ≤ cp := by omega
          obtain ⟨o, ho⟩ : ∃ o, lt x q = o := ⟨_, rfl⟩
          rw [ho] at hcl
          cases o with
          | true =>
            rw [mrg_take ho] at he
            have HC := Lib.hid hcl
            have HK := Lib.hid (And.intro hA1 (And.intro hI (And.intro he had)))
            clear hA hA1 hI he had hx hxm hqm hcl ho hxe hc' hAn
            go_wp2_with fail
            (with_reducible refine HC.out.mono ?_)
            rintro e u3 ⟨rfl, q', rfl⟩
            have hI3 := HK.out.2.1.kept (below_drN wr q')
            have HK3 := Lib.hid hI3
            have hsz3 := hI3.2.size
            have cx3 : (wr.drewN q').cell? ⟨xa, xo, none⟩ = some (.int .i64 x) := cx
            clear hI3 cx
            generalize wr.drewN q' = u3 at *
            go_wp2_with (first
              | (at_builtin
                 refine wpList_append_nums rfl (.tmp 33) (.tmp 37) rfl w.heap.size _ _ _ rfl (HK3.out.alloc _).1 (some ⟨_, 0, none⟩) 1 1 [x] rfl rfl ?c1 (by simp) ?c2 ?c3 ?_))
            case c1 => exact nums_one _ _
            case c2 => omega
            case c3 => first | omega | (simp; omega)
            intro v' w5 hown hgrow _
            have hI5 := (HK3.out.alloc _).app (l' := done ++ [x]) (by simpa using hown) hgrow
            have HX5 := Lib.hid hI5
            clear hown hgrow hI5
            rcases Nat.eq_zero_or_pos cp with hcp | hcp
            · subst hcp
              obtain rfl : r = 0 := by omega
              go_wp2
              go_roundw
              case rel =>
                refine ⟨t + 1, done ++ [x], some ⟨xa, xo, none⟩, 0, by omega, ?_, by omega, ?_, (fun h => by cases h), HX5.out, ?_⟩
                · rw [show na - (t + 1) = 0 by omega]
                · refine .inl (List.drop_eq_nil_of_le (by omega))
                · have := HK.out.2.2.1
                  rw [List.append_assoc]; exact this
              case measure => simp [lenOf]
            · have q7 : ¬ (1 : Int) = (cp : Int) + 1 := by omega
              have q8 : ¬ 1 = cp + 1 := by omega
              go_wp2
              go_roundw
              case rel =>
                refine ⟨t + 1, done ++ [x], some ⟨xa, xo + 1, none⟩, cp, by omega, ?_, by omega, HK.out.1, (fun h => by cases h), HX5.out, ?_⟩
                · rw [show na - (t + 1) = r by omega]
                · have := HK.out.2.2.1
                  rw [List.append_assoc]; exact this
              case measure => simp [lenOf]; try omega
          | false =>
            rw [mrg_skip ho, ← had] at he
            have HC := Lib.hid hcl
            have HK := Lib.hid (And.intro hA (And.intro hI (And.intro he (And.intro hr hAn))))
            clear hA hA1 hI he had hx hxm hqm hcl ho hxe hAn
            go_wp2_with fail
            (with_reducible refine HC.out.mono ?_)
            rintro e u3 ⟨rfl, q', rfl⟩
            have hI3 := HK.out.2.1.kept (below_drN wr q')
            have HK3 := Lib.hid hI3
            have hsz3 := hI3.2.size
            clear hI3 cx
            generalize wr.drewN q' = u3 at *
            go_wp2_with (first
              | (at_builtin
                 refine wpList_append_nums rfl (.tmp 41) (.tmp 43) rfl w.heap.size _ _ _ rfl (HK3.out.alloc _).1 (some ⟨_, 0, none⟩) 1 1 [q] rfl rfl ?c1 (by simp) ?c2 ?c3 ?_))
            case c1 => exact nums_one _ _
            case c2 => omega
            case c3 => first | omega | (simp; omega)
            intro v' w5 hown hgrow _
            have hI5 := (HK3.out.alloc _).app (l' := done ++ [q]) (by simpa using hown) hgrow
            have HX5 := Lib.hid hI5
            clear hown hgrow hI5
            go_wp2
            go_roundw
            case rel =>
              refine ⟨k + 1, t, done ++ [q], some ⟨xa, xo, none⟩, cp + 1, by omega, by omega, by go_num, by rw [HK.out.2.2.2.1], by omega, HK.out.1, (fun h => by cases h), HX5.out, ?_⟩
              have := HK.out.2.2.1
              rw [List.append_assoc]; exact this
            case measure => simp [intOf]; omega
        · obtain rfl : t = na := by omega
          have hnil : a.drop t = [] := List.drop_eq_nil_of_le (by omega)
          rw [hnil, mrg_none, ← hnil] at he
          have HK := Lib.hid (And.intro hA (And.intro hI (And.intro he (And.intro hAn hc'))))
          clear hA hI he hAn hnil hqm hc'
          rw [Nat.sub_self]
          go_wp2_with (first
            | (at_builtin
               refine wpList_append_nums rfl (.tmp 41) (.tmp 43) rfl w.heap.size _ _ _ rfl (HK.out.2.1.alloc _).1 (some ⟨_, 0, none⟩) 1 1 [q] rfl rfl ?c1 (by simp) ?c2 ?c3 ?_))
          case c1 => exact nums_one _ _
          case c2 => omega
          case c3 => first | omega | (simp; omega)
          intro v' w5 hown hgrow _
          have hI5 := (HK.out.2.1.alloc _).app (l' := done ++ [q]) (by simpa using hown) hgrow
          have HX5 := Lib.hid hI5
          clear hown hgrow hI5
          go_wp2
          go_roundw
          case rel =>
            refine ⟨k + 1, t, done ++ [q], A', c', by omega, Nat.le_refl _, by go_num, by rw [Nat.sub_self], HK.out.2.2.2.2, HK.out.1, HK.out.2.2.2.1, HX5.out, ?_⟩
            have := HK.out.2.2.1
            rw [List.append_assoc]; exact this
          case measure => simp [intOf]; omega
    · obtain rfl : k = nb := by omega
      have hnil : b.drop k = [] := List.drop_eq_nil_of_le (by rw [HX.out.2.1]; exact Nat.le_refl _)
      rw [hnil, show mrg lt (a.drop t) [] = a.drop t from rfl] at he
      have hdr : (a.drop t).length = na - t := by rw [List.length_drop, HX.out.2.2.2.2.2]
      have HK := Lib.hid (And.intro (hA.kept hI.2) (And.intro hI (And.intro he (And.intro hAn hdr))))
      clear hA hI he hAn hnil hdr HO
      have q1 : ¬ (k : Int) < (k : Int) := by omega
      go_wp2_with (first
        | (at_builtin
           refine wpList_append_nums rfl (.tmp 46) (.tmp 47) rfl w.heap.size _ _ _ rfl HK.out.2.1.1 A' (na - t) c' (a.drop t) rfl HK.out.2.2.2.2 HK.out.1 HK.out.2.2.2.1 ?c2 ?c3 ?_))
      case c2 => omega
      intro v' w5 hown hgrow _
      have hI5 := HK.out.2.1.app (l' := M) (by rw [← HK.out.2.2.1, List.length_append, HK.out.2.2.2.2]; simpa using hown) hgrow
      have HX5 := Lib.hid hI5
      clear hown hgrow hI5
      go_wp2
      go_ret
      exact ⟨v', rfl, HX5.out⟩

end Go.Proofs.YtpnjccomngdblaaGreat
end

section
/- The contract of the closure of above. -/
set_option maxRecDepth 100000
namespace Go.Proofs.YtpnjccomngdblaaGreat
open Go.RowKit
open M
attribute [local go_sem ↓] Go.wp_at_zero Go.wp_at_succ

def ltS (row : List Int) (x y : Int) : Bool := ltB (row.drop x.toNat) (row.drop y.toNat)
theorem Rk.abv0 {l : List Int} (h : Rk l) : Abv b0 l := fun x hx => by have := h.nn x hx; unfold b0; omega
theorem ltS_iff {row : List Int} (h : Rk row) (p q : Nat) : ltS row p q = true ↔ sl (-1) row p q := by
  unfold ltS
  rw [Int.toNat_natCast, Int.toNat_natCast, ltB_iff (fun x hx => h.abv0 x (List.mem_of_mem_drop hx)) (fun x hx => h.abv0 x (List.mem_of_mem_drop hx)), sx_drop, sx_drop]
  exact sl_map rfl h.abv0 h.abv (fun _ _ _ _ => Iff.rfl) p q
theorem ltS_eq {row : List Int} (h : Rk row) {p q p' q' : Nat} (hs : sl (-1) row p q ↔ sl (-1) row p' q') : ltS row p q = ltS row p' q' := by
  rw [Bool.eq_iff_iff, ltS_iff h, ltS_iff h]; exact hs
theorem ltS_first {row : List Int} (h : Rk row) {p q : Nat} {x y : Int} (hx : row.getD p (-1) = x) (hy : row.getD q (-1) = y) (hne : x ≠ y) : ltS row p q = decide (x < y) := by
  rw [Bool.eq_iff_iff, ltS_iff h, sl_step, hx, hy, decide_eq_true_eq]
  exact ⟨fun h => h.resolve_right (fun h => hne h.1), .inl⟩
theorem ltS_step {row : List Int} (h : Rk row) (p q : Nat) : ∀ d, (∀ e, e < d → row.getD (p + e) (-1) = row.getD (q + e) (-1)) → ltS row p q = ltS row ((p + d : Nat) : Int) ((q + d : Nat) : Int) := by
  intro d
  induction d with
  | zero => intro _; rfl
  | succ d ih =>
    intro he
    rw [ih fun e h => he e (by omega)]
    refine ltS_eq h ?_
    rw [sl_step]
    have := he d (by omega)
    constructor
    · rintro (h | ⟨-, h⟩)
      · omega
      · exact h
    · intro h; exact .inr ⟨this, h⟩

/-- What the closure of above holds: the length, the row, the ranks. -/
structure CL (w : World) (bn br bk : Nat) (R : Option Addr) (n c : Nat) (row : List Int) (K : Option Addr) (ck : Nat) (rks : List Int) (u : World) : Prop where
  n0 : u.cell? ⟨bn, 0, none⟩ = some (.int .i64 (n : Int))
  r : KX w br R n c row u
  k : KX w bk K n ck rks u
theorem CL.kept {w u u' : World} {bn br bk : Nat} {R : Option Addr} {n c : Nat} {row : List Int} {K : Option Addr} {ck : Nat} {rks : List Int} (h : CL w bn br bk R n c row K ck rks u) (hb : Below u.heap.size u u') : CL w bn br bk R n c row K ck rks u' :=
  ⟨by rw [hb.cell (p := ⟨bn, 0, none⟩) (World.block_lt_of_cell? u _ h.n0)]; exact h.n0, h.r.kept hb, h.k.kept hb⟩

theorem tmod3 (n P : Nat) (h : P ≤ n) : ((n : Int) - (P : Int)).tmod 3 = (((n - P) % 3 : Nat) : Int) := by
  rw [Int.tmod_eq_emod_of_nonneg (by omega)]
  omega

set_option maxHeartbeats 4000000 in
theorem lessc_any (bn br bk : Nat) (R : Option Addr) (n c : Nat) (row : List Int) (K : Option Addr) (ck : Nat) (rks : List Int) (w u : World) (h : CL w bn br bk R n c row K ck rks u) (hn : n ≤ 1000000) (hr : Rk row)
    (hK : ∀ p q, p < n → q < n → (n - p) % 3 ≠ 0 → (n - q) % 3 ≠ 0 → (rks.getD p 0 < rks.getD q 0 ↔ sl (-1) row p q)) (p q : Nat) (hp : p < n) (hp3 : (n - p) % 3 ≠ 0) (hq : q < n) (hq3 : (n - q) % 3 = 0) :
    Calls Tryz.prog 133 #[.int .i64 (p : Int), .int .i64 (q : Int), .pointer (some ⟨bn, 0, none⟩), .pointer (some ⟨br, 0, none⟩), .pointer (some ⟨bk, 0, none⟩)] u fun e u' => e = .returned (.bool (ltS row p q)) ∧ ∃ m, u' = u.drewN m := by
  have hst := ltS_step hr p q
  have HX := Lib.hid (And.intro h.r.len (And.intro hr (And.intro hK hst)))
  have HB := Lib.hid h
  clear h hr hK hst
  go_enter Tryz.func133, Tryz.ntmps133
  go_wp2
  go_loopw [0, 1, 8, 9] (fun v0 v1 _ _ wr => ∃ d : Nat, d ≤ 2 ∧ v0 = .int .i64 ((p + d : Nat) : Int) ∧ v1 = .int .i64 ((q + d : Nat) : Int) ∧ p + d ≤ n ∧ (d ≠ 1 → p + d < n) ∧ q + d < n ∧ (d = 2 → (n - p) % 3 = 1) ∧ (∀ e, e < d → row.getD (p + e) (-1) = row.getD (q + e) (-1)) ∧ ∃ m, wr = u.drewN m) (fun v0 _ _ _ _ => n + 3 - (intOf v0).toNat)
  case atStart => exact ⟨0, by omega, rfl, rfl, by omega, fun _ => by omega, by omega, fun h => by omega, fun e he => by omega, 0, rfl⟩
  case round =>
    obtain ⟨d, hd2, rfl, rfl, hPn', hP1, hQn, hd, heq, hw⟩ := hrel
    have hB : CL w bn br bk R n c row K ck rks wr := by
      obtain ⟨m, rfl⟩ := hw
      exact HB.out.kept (below_drN _ _)
    obtain ⟨P, hPe⟩ : ∃ P, p + d = P := ⟨_, rfl⟩
    obtain ⟨Q, hQe⟩ : ∃ Q, q + d = Q := ⟨_, rfl⟩
    rw [hPe] at hPn' hP1 ⊢
    rw [hQe] at hQn ⊢
    have cn := hB.n0
    have cr := hB.r.c0
    have ck0 := hB.k.c0
    have w1 : IntKind.i64.wrap ((n : Int) - (P : Int)) = (n : Int) - P := IntWalk.i64_in _ (by omega)
    have w2 : IntKind.i64.wrap ((n : Int) - (Q : Int)) = (n : Int) - Q := IntWalk.i64_in _ (by omega)
    have m1 := tmod3 n P hPn'
    have m2 := tmod3 n Q (by omega)
    obtain ⟨ra, hra⟩ : ∃ ra, (n - P) % 3 = ra := ⟨_, rfl⟩
    obtain ⟨rb, hrb⟩ : ∃ rb, (n - Q) % 3 = rb := ⟨_, rfl⟩
    rw [hra] at m1
    rw [hrb] at m2
    by_cases ha : ra = 0
    · subst ha
      have d1 : d = 1 := by omega
      have HPQ := Lib.hid (And.intro hPe hQe)
      obtain ⟨x, hx⟩ : ∃ x, row.getD P (-1) = x := ⟨_, rfl⟩
      obtain ⟨y, hy⟩ : ∃ y, row.getD Q (-1) = y := ⟨_, rfl⟩
      have a1 := fun m => at_any R n c P row (wr.drewN m) (hB.r.nums.kept (below_drN _ _)) hB.r.len
      have a2 := fun m => at_any R n c Q row (wr.drewN m) (hB.r.nums.kept (below_drN _ _)) hB.r.len
      simp only [hx] at a1
      simp only [hy] at a2
      have HA := Lib.hid (And.intro a1 a2)
      have HH := Lib.hid (And.intro heq (And.intro hx (And.intro hy hw)))
      clear a1 a2 heq hx hy hw hB
      by_cases exy : x = y
      · subst exy
        have qn : (x != x) = false := by simp
        go_wp2
        go_quiet (first | (go_at_call_of 130 (Value.int .i64 (P : Int)); refine Calls.quiet_of_same (HA.out.1 _)) | (refine Calls.quiet_of_same (HA.out.2 _)))
        go_wp2
        go_roundw
        case rel =>
          obtain ⟨heq, hx, hy, m, rfl⟩ := HH.out
          have hPn : P < n := by
            by_cases hlt : P < n
            · exact hlt
            · exfalso
              rw [getD_out (by rw [HX.out.1]; omega)] at hx
              have := HX.out.2.1.ge (i := Q) (by rw [HX.out.1]; exact hQn)
              omega
          refine ⟨d + 1, by omega, by go_num, by go_num, by omega, by omega, by omega, by omega, fun e he => ?_, m + nq, by rw [World.drewN_drewN]⟩
          by_cases ed : e = d
          · rw [ed, hPe, hQe, hx, hy]
          · exact heq e (by omega)
        case measure => simp [intOf]; omega
      · have qn : (x != y) = true := by simpa using exy
        have hres : ltS row p q = decide (x < y) := by
          obtain ⟨heq, hx, hy, -⟩ := HH.out
          rw [HX.out.2.2.2 d heq, hPe, hQe]
          exact ltS_first HX.out.2.1 hx hy exy
        have HR := Lib.hid hres
        clear hres
        go_wp2
        go_quiet (first | (go_at_call_of 130 (Value.int .i64 (P : Int)); refine Calls.quiet_of_same (HA.out.1 _)) | (refine Calls.quiet_of_same (HA.out.2 _)))
        go_wp2
        go_ret
        obtain ⟨-, -, -, m, rfl⟩ := HH.out
        refine ⟨by rw [HR.out]; rfl, _, by rw [World.drewN_drewN]⟩
    · by_cases hb : rb = 0
      · subst hb
        have m0 : ((ra : Int) == 0) = false := by simp; omega
        have m0' : ¬ (ra : Int) = 0 := by omega
        obtain ⟨x, hx⟩ : ∃ x, row.getD P (-1) = x := ⟨_, rfl⟩
        obtain ⟨y, hy⟩ : ∃ y, row.getD Q (-1) = y := ⟨_, rfl⟩
        have a1 := fun m => at_any R n c P row (wr.drewN m) (hB.r.nums.kept (below_drN _ _)) hB.r.len
        have a2 := fun m => at_any R n c Q row (wr.drewN m) (hB.r.nums.kept (below_drN _ _)) hB.r.len
        simp only [hx] at a1
        simp only [hy] at a2
        have HA := Lib.hid (And.intro a1 a2)
        have HH := Lib.hid (And.intro heq (And.intro hx (And.intro hy hw)))
        clear a1 a2 heq hx hy hw hB
        by_cases exy : x = y
        · subst exy
          have qn : (x != x) = false := by simp
          go_wp2
          go_quiet (first | (go_at_call_of 130 (Value.int .i64 (P : Int)); refine Calls.quiet_of_same (HA.out.1 _)) | (refine Calls.quiet_of_same (HA.out.2 _)))
          go_wp2
          go_roundw
          case rel =>
            obtain ⟨heq, hx, hy, m, rfl⟩ := HH.out
            have hPn : P < n := by
              by_cases hlt : P < n
              · exact hlt
              · exfalso
                rw [getD_out (by rw [HX.out.1]; omega)] at hx
                have := HX.out.2.1.ge (i := Q) (by rw [HX.out.1]; exact hQn)
                omega
            refine ⟨d + 1, by omega, by go_num, by go_num, by omega, by omega, by omega, by omega, fun e he => ?_, m + nq, by rw [World.drewN_drewN]⟩
            by_cases ed : e = d
            · rw [ed, hPe, hQe, hx, hy]
            · exact heq e (by omega)
          case measure => simp [intOf]; omega
        · have qn : (x != y) = true := by simpa using exy
          have hres : ltS row p q = decide (x < y) := by
            obtain ⟨heq, hx, hy, -⟩ := HH.out
            rw [HX.out.2.2.2 d heq, hPe, hQe]
            exact ltS_first HX.out.2.1 hx hy exy
          have HR := Lib.hid hres
          clear hres
          go_wp2
          go_quiet (first | (go_at_call_of 130 (Value.int .i64 (P : Int)); refine Calls.quiet_of_same (HA.out.1 _)) | (refine Calls.quiet_of_same (HA.out.2 _)))
          go_wp2
          go_ret
          obtain ⟨-, -, -, m, rfl⟩ := HH.out
          refine ⟨by rw [HR.out]; rfl, _, by rw [World.drewN_drewN]⟩
      · have m0 : ((ra : Int) == 0) = false := by simp; omega
        have m0' : ¬ (ra : Int) = 0 := by omega
        have m3 : ((rb : Int) == 0) = false := by simp; omega
        have m3' : ¬ (rb : Int) = 0 := by omega
        have hPn : P < n := by omega
        obtain ⟨kb, ko, hKe, -, c1⟩ := num_at hB.k.nums (i := P) (by rw [hB.k.len]; exact hPn)
        obtain ⟨kb2, ko2, hKe2, -, c2⟩ := num_at hB.k.nums (i := Q) (by rw [hB.k.len]; exact hQn)
        rw [hKe] at hKe2
        simp only [Option.some.injEq, Addr.mk.injEq, and_true] at hKe2
        obtain ⟨rfl, rfl⟩ := hKe2
        have hiff := HX.out.2.2.1 P Q hPn hQn (by omega) (by omega)
        obtain ⟨x, hx⟩ : ∃ x, rks.getD P 0 = x := ⟨_, rfl⟩
        obtain ⟨y, hy⟩ : ∃ y, rks.getD Q 0 = y := ⟨_, rfl⟩
        rw [hx] at c1 hiff
        rw [hy] at c2 hiff
        have hres : ltS row p q = decide (x < y) := by
          rw [HX.out.2.2.2 d heq, hPe, hQe, Bool.eq_iff_iff, ltS_iff HX.out.2.1, decide_eq_true_eq, hiff]
        have HR := Lib.hid (And.intro hres hw)
        subst hKe
        clear hres hw hx hy hiff heq hB HB HX
        have q1 : (P : Int) < (n : Int) := by omega
        have q2 : (0 : Int) ≤ (P : Int) := by omega
        have q3 : (Q : Int) < (n : Int) := by omega
        have q4 : (0 : Int) ≤ (Q : Int) := by omega
        go_wp2
        go_quiet (fail)
        go_wp2
        go_ret
        obtain ⟨hres, m, rfl⟩ := HR.out
        exact ⟨by rw [hres]; rfl, _, by rw [World.drewN_drewN]⟩

end Go.Proofs.YtpnjccomngdblaaGreat
end

section
/- The contract of others. -/
set_option maxRecDepth 100000
namespace Go.Proofs.YtpnjccomngdblaaGreat
open Go.RowKit
open M
attribute [local go_sem ↓] Go.wp_at_zero Go.wp_at_succ

/-- Places laid by their ranks stand in order. -/
theorem ranked_list (κ : Int → Int) (m : Nat) (R : Int → Int → Prop) (pl : Nat → Int) (hκ : ∀ i j : Nat, i < m → j < m → κ i < κ j → R (pl i) (pl j)) (hinj : ∀ i j : Nat, i < m → j < m → κ i = κ j → i = j)
    {L : List Int} (hL : L.length = m) (hLa : ∀ i : Nat, i < m → L.getD (nless κ m (κ i)) 0 = pl i) : L.Pairwise R ∧ ∀ x, x ∈ L ↔ ∃ i, i < m ∧ x = pl i := by
  have hrk := rnk_rk κ m
  have hdf : Df (rnkL κ m) := hrk.inj_df (fun i j hi hj e => by
    rw [rnkL_length] at hi hj
    exact hinj i j hi hj ((rnk_lt κ m hi hj).2.1 e))
  have hall := allB_iff.1 (hrk.all hdf)
  rw [rnkL_length] at hall
  have hin : ∀ a, a < m → ∃ i, i < m ∧ nless κ m (κ (i : Nat)) = a ∧ L.getD a 0 = pl i := fun a ha => by
    obtain ⟨i, hi, e⟩ := List.getElem_of_mem (hall (a : Int) (plcs_mem.2 (by omega)))
    rw [rnkL_length] at hi
    have e2 := rnkL_at κ m i hi
    rw [List.getD_eq_getElem?_getD, List.getElem?_eq_getElem (by rw [rnkL_length]; exact hi), Option.getD_some, e] at e2
    have e3 : nless κ m (κ (i : Nat)) = a := by omega
    exact ⟨i, hi, e3, by rw [← e3]; exact hLa i hi⟩
  constructor
  · rw [List.pairwise_iff_getElem]
    intro a b ha hb hab
    rw [hL] at ha hb
    obtain ⟨i, hi, e1, e2⟩ := hin a ha
    obtain ⟨j, hj, e3, e4⟩ := hin b hb
    simp only [List.getD_eq_getElem?_getD, List.getElem?_eq_getElem (show a < L.length by omega), List.getElem?_eq_getElem (show b < L.length by omega), Option.getD_some] at e2 e4
    rw [e2, e4]
    exact hκ i j hi hj ((nless_iff κ m hi hj).1.1 (by omega))
  · intro x
    constructor
    · intro hx
      obtain ⟨a, ha, e⟩ := List.getElem_of_mem hx
      obtain ⟨i, hi, -, e2⟩ := hin a (by omega)
      simp only [List.getD_eq_getElem?_getD, List.getElem?_eq_getElem ha, Option.getD_some] at e2
      exact ⟨i, hi, by rw [← e, e2]⟩
    · rintro ⟨i, hi, rfl⟩
      rw [← hLa i hi]
      exact getD_mem (by rw [hL]; exact nless_below κ m hi)

/-- What is known of the sample's ranks. -/
def RkS (row rks : List Int) (n : Nat) : Prop := ∀ p q, p < n → q < n → (n - p) % 3 ≠ 0 → (n - q) % 3 ≠ 0 → (rks.getD p 0 < rks.getD q 0 ↔ sl (-1) row p q)

def numL (row : List Int) (n : Nat) : List Int := (List.range (thC n 0)).map fun i => row.getD (thS n 0 + 3 * i) 0
def behL (rks : List Int) (n : Nat) : List Int := (List.range (thC n 0)).map fun i => rks.getD (thS n 0 + 3 * i + 1) 0
theorem numL_len (row : List Int) (n : Nat) : (numL row n).length = thC n 0 := by simp [numL]
theorem behL_len (row : List Int) (n : Nat) : (behL row n).length = thC n 0 := by simp [behL]
theorem numL_at (row : List Int) (n i : Nat) (h : i < thC n 0) : (numL row n).getD i 0 = row.getD (thS n 0 + 3 * i) 0 := by simp [numL, List.getD_eq_getElem?_getD, h]
theorem behL_at (row : List Int) (n i : Nat) (h : i < thC n 0) : (behL row n).getD i 0 = row.getD (thS n 0 + 3 * i + 1) 0 := by simp [behL, List.getD_eq_getElem?_getD, h]
theorem oth_rest (n i : Nat) (h : i < thC n 0) : thS n 0 + 3 * i + 1 < n ∧ (n - (thS n 0 + 3 * i)) % 3 = 0 ∧ (n - (thS n 0 + 3 * i + 1)) % 3 = 2 := by
  have h1 := (thC_iff n 0 i).1 h
  have := th_vals n
  omega
theorem getD_i64 {l : List Int} (h : I64s l) (i : Nat) : -9223372036854775808 ≤ l.getD i 0 ∧ l.getD i 0 ≤ 9223372036854775807 := by
  by_cases e : i < l.length
  · exact h _ (memI l i e)
  · rw [getD_out (by omega)]; omega
theorem oth_lt {row rks : List Int} {n : Nat} (hk : I64s rks) (hl : row.length = n) (h : RkS row rks n) {i j : Nat} (hi : i < thC n 0) (hj : j < thC n 0) : kyP (numL row n) (behL rks n) i < kyP (numL row n) (behL rks n) j ↔ sl (-1) row (thS n 0 + 3 * i) (thS n 0 + 3 * j) := by
  have h64 : I64s (behL rks n) := fun x hx => by
    unfold behL at hx
    obtain ⟨k, -, rfl⟩ := List.mem_map.1 hx
    exact getD_i64 hk _
  obtain ⟨a1, a2, a3⟩ := oth_rest n i hi
  obtain ⟨b1, b2, b3⟩ := oth_rest n j hj
  rw [pair_lt (behL_len _ _) h64 hi hj, numL_at _ _ _ hi, numL_at _ _ _ hj, behL_at _ _ _ hi, behL_at _ _ _ hj, sl_step, getD_in (b := -1) (by omega), getD_in (b := -1) (by omega), h _ _ a1 b1 (by omega) (by omega)]

/-- Two rows of numbers of the call's own. -/
structure DD (w : World) (D1 D2 m1 m2 : Nat) (d1 d2 : Nat → Int) (u : World) : Prop where
  a : DI w D1 m1 d1 u
  b : DI w D2 m2 d2 u
  ne : D1 ≠ D2
theorem DD.set {w u : World} {D1 D2 m1 m2 : Nat} {d1 d2 : Nat → Int} (h : DD w D1 D2 m1 m2 d1 d2 u) {i j : Nat} (hi : i < m1) (hj : j < m2) (x y : Int) : DD w D1 D2 m1 m2 (fun k => if k = i then x else d1 k) (fun k => if k = j then y else d2 k) ((u.setCell ⟨D1, i, none⟩ (.int .i64 x)).setCell ⟨D2, j, none⟩ (.int .i64 y)) :=
  ⟨(h.a.set hi x).other h.b.lo (fun e => h.ne e.symm) _, (h.b.other h.a.lo h.ne _).set hj y, h.ne⟩
theorem DD.set' {w u : World} {D1 D2 m1 m2 : Nat} {d1 d2 : Nat → Int} (h : DD w D1 D2 m1 m2 d1 d2 u) {i j : Nat} (hi : i < m1) (hj : j < m2) (x y : Int) : DD w D1 D2 m1 m2 (fun k => if k = i then x else d1 k) (fun k => if k = j then y else d2 k) ((u.setCell ⟨D2, j, none⟩ (.int .i64 y)).setCell ⟨D1, i, none⟩ (.int .i64 x)) :=
  ⟨(h.a.other h.b.lo (fun e => h.ne e.symm) _).set hi x, (h.b.set hj y).other h.a.lo h.ne _, h.ne⟩
theorem DD.kept {w u u' : World} {D1 D2 m1 m2 : Nat} {d1 d2 : Nat → Int} (h : DD w D1 D2 m1 m2 d1 d2 u) (hb : Below u.heap.size u u') : DD w D1 D2 m1 m2 d1 d2 u' := ⟨h.a.kept hb, h.b.kept hb, h.ne⟩

theorem DI.laid {w u : World} (hb : Below w.heap.size w u) (m : Nat) : DI w u.heap.size m (fun _ => 0) (u.alloc (.cells (madeCells #[Value.int .i64 0] m) 3)) := by
  refine ⟨fun i hi => ?_, fun i _ => frozen_new _ _ _ _ _ rfl, hb.size, by simp, hb.alloc hb.size _⟩
  rw [cell_new _ _ _ _ _ rfl]
  have := madeInt m i hi
  rwa [Array.getElem?_toList] at this
theorem DD.laid {w u : World} (hb : Below w.heap.size w u) (m1 m2 : Nat) : DD w u.heap.size (u.heap.size + 1) m1 m2 (fun _ => 0) (fun _ => 0) (((u.alloc (.cells (madeCells #[Value.int .i64 0] m1) 3)).alloc (.cells (madeCells #[Value.int .i64 0] m2) 3)).drew) := by
  have h1 := DI.laid hb m1
  have h2 := DI.laid h1.bel m2
  rw [show (u.alloc (.cells (madeCells #[Value.int .i64 0] m1) 3)).heap.size = u.heap.size + 1 by simp] at h2
  exact ⟨(h1.kept (al _ _)).kept ((Below.refl _ _).drew), h2.kept ((Below.refl _ _).drew), by omega⟩
theorem DD.laid' {w u : World} (hb : Below w.heap.size w u) (m1 m2 : Nat) : DD w (u.heap.size + 1) u.heap.size m1 m2 (fun _ => 0) (fun _ => 0) (((u.alloc (.cells (madeCells #[Value.int .i64 0] m2) 3)).alloc (.cells (madeCells #[Value.int .i64 0] m1) 3)).drew) :=
  ⟨(DD.laid hb m2 m1).b, (DD.laid hb m2 m1).a, fun e => (DD.laid hb m2 m1).ne e.symm⟩

set_option maxHeartbeats 4000000 in
theorem others_any (R K : Option Addr) (n c ck : Nat) (row rks : List Int) (w : World) (hR : NumsAt .i64 w R row) (hlr : row.length = n) (hK : NumsAt .i64 w K rks) (hlk : rks.length = n) (hn : n ≤ 1000000) (hr : Rk row) (hk64 : I64s rks) (hS : RkS row rks n) :
    Calls Tryz.prog 135 #[.slice R n c, .slice K n ck] w fun e u => ∃ D L, e = .returned (.slice (some ⟨D, 0, none⟩) (thC n 0) (thC n 0)) ∧ NumsAt .i64 u (some ⟨D, 0, none⟩) L ∧ L.length = thC n 0 ∧ Below w.heap.size w u ∧ L.Pairwise (fun x y => sl (-1) row x.toNat y.toNat) ∧ ∀ x, x ∈ L ↔ ∃ i, i < thC n 0 ∧ x = ((thS n 0 + 3 * i : Nat) : Int) := by
  have hm := thC_le n 0
  have t0 : ∀ u, Calls Tryz.prog 153 #[.int .i64 (n : Int), .int .i64 0] u fun e u' => ∃ v, e = .returned v ∧ OwnI u v (thL n 0) u' := fun u => thirds_any n 0 u hn (by omega)
  have HX := Lib.hid (And.intro hR (And.intro hlr (And.intro hK (And.intro hlk (And.intro hr (And.intro hk64 (And.intro hS t0)))))))
  clear hR hlr hK hlk hr hk64 hS t0
  go_enter Tryz.func135, Tryz.ntmps135
  go_wp2_with fail
  (with_reducible refine (HX.out.2.2.2.2.2.2.2 _).mono ?_)
  rintro e u1 ⟨v, rfl, hI⟩
  obtain ⟨P, cP, rfl, hP, hPl, -, -, -⟩ := nums_of_own hI.1
  rw [thL_len]
  rw [thL_len] at hPl
  have HP := Lib.hid (And.intro hI.2 (And.intro hP hPl))
  clear hI hP hPl
  obtain ⟨m, hmm⟩ : ∃ m, m = thC n 0 := ⟨_, rfl⟩
  rw [← hmm] at hm ⊢
  have HM := Lib.hid hmm
  clear hmm
  obtain ⟨i0, hi, hz0, hz1, hz2⟩ := info_parts info3
  have hmk : ∀ u : World, (Instr.makeSlice 38 (.int .i64 (m : Int)) (.int .i64 (m : Int))).run Tryz.prog u = .ok (.slice (some ⟨u.heap.size, 0, none⟩) m m) (u.alloc (.cells (madeCells (Value.int .i64 0).cells (m * 1)) 3)) := fun u => by
    have := run_make (P := Tryz.prog) u 38 3 i0 (.int .i64 0) Tryz.underlying38 hi hz0 .i64 .i64 (m : Int) (m : Int) (by omega) (Int.le_refl _) (by rw [hz2]; omega) (by omega)
    rw [hz1] at this
    simpa using this
  go_upto_region 2 with fail
  go_cut [6, 7] from 18 to 23 (fun v6 v7 wx => ∃ D1 D2, v6 = .slice (some ⟨D1, 0, none⟩) m m ∧ v7 = .slice (some ⟨D2, 0, none⟩) m m ∧ DD u1 D1 D2 m m (fun _ => 0) (fun _ => 0) wx)
  case first =>
    go_region
    all_goals go_wp2
    all_goals go_meet
    all_goals first | exact ⟨_, _, rfl, rfl, DD.laid (Below.refl _ _) m m⟩ | exact ⟨_, _, rfl, rfl, DD.laid' (Below.refl _ _) m m⟩
  case rest =>
    obtain ⟨D1, D2, rfl, rfl, hDD⟩ := hcut
    have HD := Lib.hid hDD
    have hPl : (thL n 0).length = m := by rw [thL_len]; exact HM.out.symm
    have HPL := Lib.hid hPl
    clear hDD hPl hmk
    go_wp2
    go_loopw [8, 9, 26] (fun _ _ v26 wr => ∃ k : Nat, k ≤ m ∧ v26 = .int .i64 (k : Int) ∧ DD u1 D1 D2 m m (fun i => if i < k then row.getD (thS n 0 + 3 * i) 0 else 0) (fun i => if i < k then rks.getD (thS n 0 + 3 * i + 1) 0 else 0) wr) (fun _ _ v26 _ => m - (intOf v26).toNat)
    case atStart =>
      exact ⟨0, Nat.zero_le _, rfl, ⟨HD.out.a.congr fun i _ => by simp, HD.out.b.congr fun i _ => by simp, HD.out.ne⟩⟩
    case round =>
      obtain ⟨k, hk, rfl, hDr⟩ := hrel
      clear HD
      have hwb := HP.out.1.trans (hDr.a.bel.mono HP.out.1.size)
      have hPr := HP.out.2.1.kept hDr.a.bel
      by_cases hlt : k < m
      · obtain ⟨pb, po, hPe, -, cp⟩ := num_at hPr (i := k) (by rw [HPL.out]; exact hlt)
        rw [thL_at n 0 k (by rw [← HM.out]; exact hlt)] at cp
        obtain ⟨o1, o2, o3⟩ := oth_rest n k (by rw [← HM.out]; exact hlt)
        obtain ⟨rb, ro, hRe, -, cr⟩ := num_at (HX.out.1.kept hwb) (i := thS n 0 + 3 * k) (by rw [HX.out.2.1]; omega)
        obtain ⟨kb, ko, hKe, -, ckk⟩ := num_at (HX.out.2.2.1.kept hwb) (i := thS n 0 + 3 * k + 1) (by rw [HX.out.2.2.2.1]; omega)
        have d1 := hDr.a.cell k hlt
        have z1 := hDr.a.frz k hlt
        have d2 := hDr.b.cell k hlt
        have z2 := hDr.b.frz k hlt
        have hne := hDr.ne
        have hset := hDr.set hlt hlt (row.getD (thS n 0 + 3 * k) 0) (rks.getD (thS n 0 + 3 * k + 1) 0)
        have hset' := hDr.set' hlt hlt (row.getD (thS n 0 + 3 * k) 0) (rks.getD (thS n 0 + 3 * k + 1) 0)
        rw [if_neg (Nat.lt_irrefl k)] at d1 d2
        obtain ⟨x, hx⟩ : ∃ x, row.getD (thS n 0 + 3 * k) 0 = x := ⟨_, rfl⟩
        obtain ⟨y, hy⟩ : ∃ y, rks.getD (thS n 0 + 3 * k + 1) 0 = y := ⟨_, rfl⟩
        rw [hx] at cr hset hset'
        rw [hy] at ckk hset hset'
        obtain ⟨p, hp⟩ : ∃ p, thS n 0 + 3 * k = p := ⟨_, rfl⟩
        rw [hp] at cp cr ckk o1
        have HS := Lib.hid (And.intro hset (And.intro hset' (And.intro hx (And.intro hy (And.intro hPr (And.intro o2 o3))))))
        have HPE := Lib.hid hp
        subst hPe hRe hKe
        clear hset hset' hDr hx hy hPr hp o2 o3 hwb
        have q1 : (k : Int) < (m : Int) := by omega
        have q2 : (0 : Int) ≤ (k : Int) := by omega
        have q3 : (p : Int) < (n : Int) := by omega
        have q4 : (0 : Int) ≤ (p : Int) := by omega
        have q5 : IntKind.i64.wrap ((p : Int) + 1) = (p : Int) + 1 := IntWalk.i64_in _ (by omega)
        have q6 : (p : Int) + 1 < (n : Int) := by omega
        have q7 : (0 : Int) ≤ (p : Int) + 1 := by omega
        have q8 : ((p : Int) + 1).toNat = p + 1 := by omega
        have ckk' := ckk
        rw [← Nat.add_assoc] at ckk'
        go_wp2
        go_region
        all_goals
          go_wp2
          go_roundw
          case rel =>
            have hs := HS.out.1.kept ((Below.refl _ _).drew)
            refine ⟨k + 1, by omega, by go_num, ⟨hs.a.congr fun i _ => ?_, hs.b.congr fun i _ => ?_, hs.ne⟩⟩
            · by_cases e : i = k
              · rw [if_pos e, if_pos (by omega), e, HS.out.2.2.1]
              · rw [if_neg e]
                by_cases e2 : i < k
                · rw [if_pos e2, if_pos (by omega)]
                · rw [if_neg e2, if_neg (by omega)]
            · by_cases e : i = k
              · rw [if_pos e, if_pos (by omega), e, HS.out.2.2.2.1]
              · rw [if_neg e]
                by_cases e2 : i < k
                · rw [if_pos e2, if_pos (by omega)]
                · rw [if_neg e2, if_neg (by omega)]
          case measure => simp [intOf]; omega
      · obtain rfl : k = m := by omega
        have q1 : ¬ (k : Int) < (k : Int) := by omega
        have h1 := hDr.a.nums (l := numL row n) (by rw [numL_len]; exact HM.out.symm) (fun i hi => by rw [if_pos hi, numL_at _ _ _ (by rw [← HM.out]; exact hi)])
        have h2 := hDr.b.nums (l := behL rks n) (by rw [behL_len]; exact HM.out.symm) (fun i hi => by rw [if_pos hi, behL]; simp [List.getD_eq_getElem?_getD, show i < thC n 0 by rw [← HM.out]; exact hi])
        have h64n : I64s (numL row n) := fun x hx => by
          unfold numL at hx
          obtain ⟨i, -, rfl⟩ := List.mem_map.1 hx
          exact getD_i64 (rk_i64 HX.out.2.2.2.2.1 (by rw [HX.out.2.1]; exact hn)) _
        have h64b : I64s (behL rks n) := fun x hx => by
          unfold behL at hx
          obtain ⟨i, -, rfl⟩ := List.mem_map.1 hx
          exact getD_i64 HX.out.2.2.2.2.2.1 _
        have hp := pairs_any (some ⟨D1, 0, none⟩) (some ⟨D2, 0, none⟩) k k k (numL row n) (behL rks n) wr h1 h2 (by rw [numL_len]; exact HM.out.symm) (by rw [behL_len]; exact HM.out.symm) (by omega) h64n h64b
        have HQ := Lib.hid (And.intro hp (And.intro hPr (HP.out.1.trans (hDr.a.bel.mono HP.out.1.size))))
        clear hp hPr hDr h1 h2 h64n h64b hwb
        go_wp2_with fail
        (with_reducible refine HQ.out.1.mono ?_)
        rintro e u2 ⟨D3, rfl, h1, h2⟩
        have HR := Lib.hid (And.intro h1 (And.intro (HQ.out.2.1.kept h2) (HQ.out.2.2.trans (h2.mono HQ.out.2.2.size))))
        clear h1 h2
        obtain ⟨i0, hi, hz0, hz1, hz2⟩ := info_parts info3
        go_wp2_with (first | (at_make; refine wpList_make_full _ rfl _ _ 38 rfl u2.heap.size 3 i0 (.int .i64 0) 1 Tryz.underlying38 hi hz0 hz1 _ _ _ _ k rfl rfl rfl rfl ?b2 ?b3 (Nat.le_refl _) ?_))
        case b2 => first | omega | (rw [hz2]; omega)
        case b3 => unfold maxLen; omega
        intro w3 hown hgrow
        have hD := DI.made (Below.refl _ _) hown hgrow
        have HD := Lib.hid hD
        clear hown hgrow hD hi hz0 hz1 hz2
        obtain ⟨D, hDe⟩ : ∃ D, D = u2.heap.size := ⟨_, rfl⟩
        rw [← hDe] at HD
        rw [← hDe]
        clear hDe
        obtain ⟨m, rfl⟩ : ∃ m, m = k := ⟨_, rfl⟩
        obtain ⟨κ, hκ⟩ : ∃ κ, kyP (numL row n) (behL rks n) = κ := ⟨_, rfl⟩
        have hol : ∀ i j : Nat, i < m → j < m → (κ i < κ j ↔ sl (-1) row (thS n 0 + 3 * i) (thS n 0 + 3 * j)) := fun i j h1 h2 => by
          rw [← hκ]
          exact oth_lt HX.out.2.2.2.2.2.1 HX.out.2.1 HX.out.2.2.2.2.2.2.1 (by rw [← HM.out]; exact h1) (by rw [← HM.out]; exact h2)
        rw [hκ] at HR
        have hinj : ∀ i j : Nat, i < m → j < m → κ i = κ j → i = j := fun i j h1 h2 e => by
          apply Classical.byContradiction
          intro hne
          have o1 := oth_rest n i (by rw [← HM.out]; exact h1)
          have o2 := oth_rest n j (by rw [← HM.out]; exact h2)
          rcases sl_total HX.out.2.2.2.2.1.abv (p := thS n 0 + 3 * i) (q := thS n 0 + 3 * j) (by rw [HX.out.2.1]; omega) (by rw [HX.out.2.1]; omega) (by omega) with h | h
          · have := (hol i j h1 h2).2 h; omega
          · have := (hol j i h2 h1).2 h; omega
        have HK := Lib.hid (And.intro hol hinj)
        clear hκ hol hinj
        go_wp2
        go_loopw [13, 14, 58] (fun _ _ v58 wr => ∃ (k : Nat) (d : Nat → Int), k ≤ m ∧ v58 = .int .i64 (k : Int) ∧ DI u2 D m d wr ∧ ∀ i : Nat, i < k → d (nless κ m (κ i)) = ((thS n 0 + 3 * i : Nat) : Int)) (fun _ _ v58 _ => m - (intOf v58).toNat)
        case atStart => exact ⟨0, _, Nat.zero_le _, rfl, HD.out, fun i hi => by omega⟩
        case round =>
          obtain ⟨k, d, hk, rfl, hDr, hd⟩ := hrel
          clear HD
          by_cases hlt : k < m
          · obtain ⟨pb, po, hPe, -, cp⟩ := num_at (HR.out.2.1.kept hDr.bel) (i := k) (by rw [HPL.out]; exact hlt)
            rw [thL_at n 0 k (by rw [← HM.out]; exact hlt)] at cp
            obtain ⟨rb, ro, hRe, -, cr⟩ := num_at (HR.out.1.kept hDr.bel) (i := k) (by rw [rnkL_length]; exact hlt)
            simp only [Option.some.injEq, Addr.mk.injEq, and_true] at hRe
            obtain ⟨rfl, rfl⟩ := hRe
            rw [rnkL_at κ m k hlt, Nat.zero_add] at cr
            have hnl := nless_below κ m hlt
            have hnn : ∀ i : Nat, i < k → nless κ m (κ i) ≠ nless κ m (κ k) := fun i hi e => by
              have := HK.out.2 i k (by omega) hlt ((nless_iff κ m (by omega) hlt).2.1 e)
              omega
            obtain ⟨r, hr⟩ : ∃ r, nless κ m (κ k) = r := ⟨_, rfl⟩
            rw [hr] at cr hnl hnn
            obtain ⟨p, hp⟩ : ∃ p, thS n 0 + 3 * k = p := ⟨_, rfl⟩
            rw [hp] at cp
            have cd := hDr.cell r hnl
            have zd := hDr.frz r hnl
            have hset := hDr.set hnl (p : Int)
            have HS := Lib.hid (And.intro hset (And.intro hd (And.intro hnn (And.intro hr hp))))
            subst hPe
            clear hset hd hnn hr hp hDr
            have q1 : (k : Int) < (m : Int) := by omega
            have q2 : (0 : Int) ≤ (k : Int) := by omega
            have q3 : (r : Int) < (m : Int) := by omega
            have q4 : (0 : Int) ≤ (r : Int) := by omega
            go_wp2
            go_roundw
            case rel =>
              refine ⟨k + 1, _, by omega, by go_num, HS.out.1, fun i hi => ?_⟩
              by_cases e : i = k
              · rw [e, HS.out.2.2.2.1, HS.out.2.2.2.2, if_pos rfl]
              · rw [if_neg (HS.out.2.2.1 i (by omega))]
                exact HS.out.2.1 i (by omega)
            case measure => simp [intOf]; omega
          · obtain rfl : k = m := by omega
            have q2 : ¬ (k : Int) < (k : Int) := by omega
            have HF := Lib.hid (And.intro hDr hd)
            clear hDr hd
            go_wp2
            go_ret
            obtain ⟨hDr, hd⟩ := HF.out
            have hLl : ((List.range k).map d).length = k := by simp
            have hLa : ∀ q, q < k → ((List.range k).map d).getD q 0 = d q := fun q hq => by simp [List.getD_eq_getElem?_getD, hq]
            obtain ⟨pw, mem⟩ := ranked_list κ k (fun x y => sl (-1) row x.toNat y.toNat) (fun i => ((thS n 0 + 3 * i : Nat) : Int)) (fun i j h1 h2 h => by
              rw [Int.toNat_natCast, Int.toNat_natCast]
              exact (HK.out.1 i j h1 h2).1 h) HK.out.2 hLl (fun i hi => by rw [hLa _ (nless_below κ k hi)]; exact hd i hi)
            refine ⟨D, (by rw [← HM.out]; rfl), (List.range k).map d, hDr.nums hLl (fun j hj => (hLa j hj).symm), by rw [hLl]; exact HM.out, HR.out.2.2.trans (hDr.bel.mono HR.out.2.2.size), pw, fun x => ?_⟩
            rw [mem x, ← HM.out]
            constructor <;> rintro ⟨i, h1, h2⟩ <;> exact ⟨i, h1, by omega⟩

end Go.Proofs.YtpnjccomngdblaaGreat
end

section
/- The contract of above. -/
set_option maxRecDepth 100000
namespace Go.Proofs.YtpnjccomngdblaaGreat
open Go.RowKit
open M
attribute [local go_sem ↓] Go.wp_at_zero Go.wp_at_succ

theorem three_at (u : World) (ca cb cc : Array Value) (ta tb tc : TypeId) :
    (∀ i, (((u.alloc (.cells ca ta)).alloc (.cells cb tb)).alloc (.cells cc tc)).drew.cell? ⟨u.heap.size, i, none⟩ = ca[i]?) ∧
    (∀ i, (((u.alloc (.cells ca ta)).alloc (.cells cb tb)).alloc (.cells cc tc)).drew.cell? ⟨u.heap.size + 1, i, none⟩ = cb[i]?) ∧
    (∀ i, (((u.alloc (.cells ca ta)).alloc (.cells cb tb)).alloc (.cells cc tc)).drew.cell? ⟨u.heap.size + 1 + 1, i, none⟩ = cc[i]?) ∧
    (∀ i, (((u.alloc (.cells ca ta)).alloc (.cells cb tb)).alloc (.cells cc tc)).drew.frozen? ⟨u.heap.size, i, none⟩ = false) ∧
    (∀ i, (((u.alloc (.cells ca ta)).alloc (.cells cb tb)).alloc (.cells cc tc)).drew.frozen? ⟨u.heap.size + 1, i, none⟩ = false) ∧
    (∀ i, (((u.alloc (.cells ca ta)).alloc (.cells cb tb)).alloc (.cells cc tc)).drew.frozen? ⟨u.heap.size + 1 + 1, i, none⟩ = false) ∧
    (((u.alloc (.cells ca ta)).alloc (.cells cb tb)).alloc (.cells cc tc)).drew.heap.size = u.heap.size + 3 ∧
    Below u.heap.size u (((u.alloc (.cells ca ta)).alloc (.cells cb tb)).alloc (.cells cc tc)).drew := by
  have s1 : (u.alloc (.cells ca ta)).heap.size = u.heap.size + 1 := World.size_alloc _ _
  have s2 : ((u.alloc (.cells ca ta)).alloc (.cells cb tb)).heap.size = u.heap.size + 1 + 1 := by rw [World.size_alloc, s1]
  refine ⟨fun i => ?_, fun i => ?_, fun i => ?_, fun i => ?_, fun i => ?_, fun i => ?_, ?_, ?_⟩
  · show (((u.alloc (.cells ca ta)).alloc (.cells cb tb)).alloc (.cells cc tc)).cell? _ = _
    rw [cell_old _ _ _ _ (by omega), cell_old _ _ _ _ (by omega), cell_new _ _ _ _ _ rfl]
  · show (((u.alloc (.cells ca ta)).alloc (.cells cb tb)).alloc (.cells cc tc)).cell? _ = _
    rw [cell_old _ _ _ _ (by omega), cell_new _ _ _ _ _ s1.symm]
  · show (((u.alloc (.cells ca ta)).alloc (.cells cb tb)).alloc (.cells cc tc)).cell? _ = _
    rw [cell_new _ _ _ _ _ s2.symm]
  · show (((u.alloc (.cells ca ta)).alloc (.cells cb tb)).alloc (.cells cc tc)).frozen? _ = _
    rw [frozen_old _ _ _ _ (by omega), frozen_old _ _ _ _ (by omega), frozen_new _ _ _ _ _ rfl]
  · show (((u.alloc (.cells ca ta)).alloc (.cells cb tb)).alloc (.cells cc tc)).frozen? _ = _
    rw [frozen_old _ _ _ _ (by omega), frozen_new _ _ _ _ _ s1.symm]
  · show (((u.alloc (.cells ca ta)).alloc (.cells cb tb)).alloc (.cells cc tc)).frozen? _ = _
    rw [frozen_new _ _ _ _ _ s2.symm]
  · show (((u.alloc (.cells ca ta)).alloc (.cells cb tb)).alloc (.cells cc tc)).heap.size = _
    rw [World.size_alloc, s2]
  · exact ((((Below.refl _ _).alloc (Nat.le_refl _) _).alloc (by omega) _).alloc (by omega) _).drew
theorem DI.of {w W : World} {b m : Nat} (hc : ∀ i, W.cell? ⟨b, i, none⟩ = (madeCells #[Value.int .i64 0] m)[i]?) (hz : ∀ i, W.frozen? ⟨b, i, none⟩ = false) (lo : w.heap.size ≤ b) (hi : b < W.heap.size) (hb : Below w.heap.size w W) : DI w b m (fun _ => 0) W := by
  refine ⟨fun i h => ?_, fun i _ => hz i, lo, hi, hb⟩
  rw [hc]
  have := madeInt m i h
  rwa [Array.getElem?_toList] at this

set_option maxHeartbeats 4000000 in
theorem above_any (R I : Option Addr) (n c ci : Nat) (row three inn : List Int) (w : World) (hR : NumsAt .i64 w R row) (hlr : row.length = n) (hI : NumsAt .i64 w I inn) (hli : inn.length = smpN n) (hn : n ≤ 1000000) (h2 : 2 ≤ n) (hr : Rk row) (hB : Bel row three) (hS : SA (-1) three inn) :
    Calls Tryz.prog 95 #[.slice R n c, .slice I (smpN n) ci] w fun e u => ∃ A ca O, e = .returned (.slice A n ca) ∧ NumsAt .i64 u A O ∧ n ≤ ca ∧ Below w.heap.size w u ∧ SA (-1) row O ∧ Frs w.heap.size A := by
  have hmn := smpN_le n
  have hR0 := KX.new w R n c row hR hlr
  obtain ⟨br, hbr⟩ : ∃ br, br = w.heap.size := ⟨_, rfl⟩
  obtain ⟨w0, hw0⟩ : ∃ w0, w0 = w.alloc (.cells #[.slice R n c] 38) := ⟨_, rfl⟩
  have hs0 : w0.heap.size = br + 1 := by rw [hw0, hbr]; simp
  rw [← hw0, ← hbr] at hR0
  obtain ⟨w1, hw1⟩ : ∃ w1, w1 = w0.alloc (.cells #[.int .i64 (n : Int)] 3) := ⟨_, rfl⟩
  have hR1 := hR0.kept (al w0 (.cells #[.int .i64 (n : Int)] 3))
  have c1 : w1.cell? ⟨br + 1, 0, none⟩ = some (.int .i64 (n : Int)) := by rw [hw1, cell_new _ _ _ _ _ hs0.symm]; rfl
  rw [← hw1] at hR1
  have hsm : Calls Tryz.prog 128 #[.int .i64 (n : Int)] w1 fun e u => ∃ v, e = .returned v ∧ OwnI w1 v (smp n) u := sample_any n w1 hn
  have HX := Lib.hid (And.intro hR1 (And.intro c1 (And.intro hsm (And.intro hI (And.intro hli (And.intro hr (And.intro hB hS)))))))
  clear hR hlr hI hli hr hB hS hR0 hR1 hsm
  go_enter Tryz.func95, Tryz.ntmps95
  go_upto_region 2 with fail
  rw [← hw0, ← hw1, ← hbr]
  clear hw0 hbr hs0 hw1
  go_wp2_with fail
  (with_reducible refine HX.out.2.2.1.mono ?_)
  rintro e u1 ⟨v, rfl, hI1⟩
  obtain ⟨P, cP, rfl, hP, hPl, -, -, -⟩ := nums_of_own hI1.1
  rw [smp_len, show thC n 1 + thC n 2 = smpN n from rfl]
  obtain ⟨m, hmm⟩ : ∃ m, m = smpN n := ⟨_, rfl⟩
  rw [← hmm] at hmn ⊢
  have hRu := HX.out.1.kept hI1.2
  have cu : u1.cell? ⟨br + 1, 0, none⟩ = some (.int .i64 (n : Int)) := by rw [hI1.2.cell (p := ⟨br + 1, 0, none⟩) (World.block_lt_of_cell? w1 _ HX.out.2.1)]; exact HX.out.2.1
  have HP := Lib.hid (And.intro hRu (And.intro cu (And.intro hP hmm)))
  obtain ⟨i0, hi, hz0, hz1, hz2⟩ := info_parts info3
  have hmk : ∀ (m : Nat), m ≤ 1000000 → ∀ u : World, (Instr.makeSlice 38 (.int .i64 (m : Int)) (.int .i64 (m : Int))).run Tryz.prog u = .ok (.slice (some ⟨u.heap.size, 0, none⟩) m m) (u.alloc (.cells (madeCells (Value.int .i64 0).cells (m * 1)) 3)) := fun m hm u => by
    have := run_make (P := Tryz.prog) u 38 3 i0 (.int .i64 0) Tryz.underlying38 hi hz0 .i64 .i64 (m : Int) (m : Int) (by omega) (Int.le_refl _) (by rw [hz2]; omega) (by omega)
    rw [hz1] at this
    simpa using this
  have hmk1 := hmk m (by omega)
  have hmk2 := hmk n hn
  clear hi hz0 hz1 hz2 hmk hI1 hP hPl hRu hmm c1
  have hul := World.block_lt_of_cell? u1 _ cu
  have ca : ∀ o, (u1.alloc o).cell? ⟨br + 1, 0, none⟩ = some (.int .i64 (n : Int)) := fun o => by rw [cell_old _ _ _ _ hul]; exact cu
  have cb : ∀ o o', ((u1.alloc o).alloc o').cell? ⟨br + 1, 0, none⟩ = some (.int .i64 (n : Int)) := fun o o' => by rw [cell_old _ _ _ _ (by rw [World.size_alloc]; exact Nat.lt_succ_of_lt hul)]; exact ca o
  go_upto_region 3 with fail
  go_cut [7, 8] from 16 to 20 (fun v7 v8 wx => ∃ D1 D2 bk, v7 = .slice (some ⟨D1, 0, none⟩) m m ∧ v8 = .pointer (some ⟨bk, 0, none⟩) ∧ wx.cell? ⟨bk, 0, none⟩ = some (.slice (some ⟨D2, 0, none⟩) n n) ∧ D1 ≠ bk ∧ D2 ≠ bk ∧ bk < wx.heap.size ∧ u1.heap.size ≤ bk ∧ DD u1 D1 D2 m n (fun _ => 0) (fun _ => 0) wx)
  case first =>
    go_region
    all_goals go_wp2
    all_goals go_meet
    all_goals
      first
        | (obtain ⟨h0, h1, h2, z0, z1, z2, hsz, hbl⟩ := three_at u1 (madeCells #[Value.int .i64 0] m) (madeCells #[Value.int .i64 0] n) #[Value.slice (some ⟨u1.heap.size + 1, 0, none⟩) n n] 3 3 38
           exact ⟨_, u1.heap.size + 1, _, rfl, rfl, by rw [h2]; rfl, by omega, by omega, by omega, by omega, ⟨DI.of h0 z0 (by omega) (by omega) hbl, DI.of h1 z1 (by omega) (by omega) hbl, by omega⟩⟩)
        | (obtain ⟨h0, h1, h2, z0, z1, z2, hsz, hbl⟩ := three_at u1 (madeCells #[Value.int .i64 0] m) #[Value.slice (some ⟨u1.heap.size + 1 + 1, 0, none⟩) n n] (madeCells #[Value.int .i64 0] n) 3 38 3
           exact ⟨_, u1.heap.size + 1 + 1, _, rfl, rfl, by rw [h1]; rfl, by omega, by omega, by omega, by omega, ⟨DI.of h0 z0 (by omega) (by omega) hbl, DI.of h2 z2 (by omega) (by omega) hbl, by omega⟩⟩)
        | (obtain ⟨h0, h1, h2, z0, z1, z2, hsz, hbl⟩ := three_at u1 (madeCells #[Value.int .i64 0] n) (madeCells #[Value.int .i64 0] m) #[Value.slice (some ⟨u1.heap.size, 0, none⟩) n n] 3 3 38
           exact ⟨_, u1.heap.size, _, rfl, rfl, by rw [h2]; rfl, by omega, by omega, by omega, by omega, ⟨DI.of h1 z1 (by omega) (by omega) hbl, DI.of h0 z0 (by omega) (by omega) hbl, by omega⟩⟩)
        | (obtain ⟨h0, h1, h2, z0, z1, z2, hsz, hbl⟩ := three_at u1 (madeCells #[Value.int .i64 0] n) #[Value.slice (some ⟨u1.heap.size, 0, none⟩) n n] (madeCells #[Value.int .i64 0] m) 3 38 3
           exact ⟨_, u1.heap.size, _, rfl, rfl, by rw [h1]; rfl, by omega, by omega, by omega, by omega, ⟨DI.of h2 z2 (by omega) (by omega) hbl, DI.of h0 z0 (by omega) (by omega) hbl, by omega⟩⟩)
        | (obtain ⟨h0, h1, h2, z0, z1, z2, hsz, hbl⟩ := three_at u1 #[Value.slice (some ⟨u1.heap.size + 1 + 1, 0, none⟩) n n] (madeCells #[Value.int .i64 0] m) (madeCells #[Value.int .i64 0] n) 38 3 3
           exact ⟨_, u1.heap.size + 1 + 1, _, rfl, rfl, by rw [h0]; rfl, by omega, by omega, by omega, by omega, ⟨DI.of h1 z1 (by omega) (by omega) hbl, DI.of h2 z2 (by omega) (by omega) hbl, by omega⟩⟩)
        | (obtain ⟨h0, h1, h2, z0, z1, z2, hsz, hbl⟩ := three_at u1 #[Value.slice (some ⟨u1.heap.size + 1, 0, none⟩) n n] (madeCells #[Value.int .i64 0] n) (madeCells #[Value.int .i64 0] m) 38 3 3
           exact ⟨_, u1.heap.size + 1, _, rfl, rfl, by rw [h0]; rfl, by omega, by omega, by omega, by omega, ⟨DI.of h2 z2 (by omega) (by omega) hbl, DI.of h1 z1 (by omega) (by omega) hbl, by omega⟩⟩)
  case rest =>
    obtain ⟨D1, D2, bk, rfl, rfl, ck0, hne1, hne2, hbk, hbk1, hDD⟩ := hcut
    have HD := Lib.hid (And.intro hDD ck0)
    clear hDD ck0 ca cb cu hmk1 hmk2 hul
    go_wp2
    go_loopw [9, 10, 23] (fun _ _ v23 wr => ∃ (k : Nat) (d2 : Nat → Int), k ≤ m ∧ v23 = .int .i64 (k : Int) ∧ DD u1 D1 D2 m n (fun i => if i < k then ((plN n (inn.getD i 0).toNat : Nat) : Int) else 0) d2 wr ∧ wr.cell? ⟨bk, 0, none⟩ = some (.slice (some ⟨D2, 0, none⟩) n n) ∧ (∀ j : Nat, j < k → d2 (plN n (inn.getD j 0).toNat) = (j : Int)) ∧ ∀ p, 0 ≤ d2 p ∧ d2 p ≤ m) (fun _ _ v23 _ => m - (intOf v23).toNat)
    case atStart => exact ⟨0, fun _ => 0, Nat.zero_le _, rfl, ⟨HD.out.1.a.congr fun i _ => by simp, HD.out.1.b, HD.out.1.ne⟩, HD.out.2, fun j hj => by omega, fun p => by show (0 : Int) ≤ 0 ∧ (0 : Int) ≤ (m : Int); omega⟩
    case round =>
      obtain ⟨k, d2, hk, rfl, hDr, ckr, hd2, hdb⟩ := hrel
      clear HD
      have hS := HX.out.2.2.2.2.2.2.2
      have hBl := HX.out.2.2.2.2.2.2.1
      have hlen : three.length = m := by rw [hBl.len, HX.out.1.len]; exact HP.out.2.2.2.symm
      have hwb := HP.out.1.bel.trans (hDr.a.bel.mono HP.out.1.bel.size)
      by_cases hlt : k < m
      · obtain ⟨ib, io, hIe, -, ci0⟩ := num_at (HX.out.2.2.2.1.kept hwb) (i := k) (by rw [HX.out.2.2.2.2.1, ← HP.out.2.2.2]; exact hlt)
        obtain ⟨i, hi, him⟩ := hS.pl (i := k) (by rw [hlen]; exact hlt)
        rw [hi] at ci0
        have hi2 : (inn.getD k 0).toNat = i := by rw [hi]; rfl
        rw [hlen] at him
        have hplt := plN_lt n i (by rw [HP.out.2.2.2] at him; exact him)
        obtain ⟨pb, po, hPe, hpl, cp0⟩ := num_at HP.out.2.2.1 (i := i) (by rw [smp_len]; rw [HP.out.2.2.2] at him; exact him)
        rw [smp_at n i (by rw [HP.out.2.2.2] at him; exact him)] at cp0
        have hinj : ∀ j : Nat, j < k → plN n (inn.getD j 0).toNat ≠ plN n i := fun j hj e => by
          obtain ⟨i', hi', him'⟩ := hS.pl (i := j) (by rw [hlen]; omega)
          rw [hi', Int.toNat_natCast] at e
          rw [hlen] at him'
          have := plN_inj n i' i (by rw [HP.out.2.2.2] at him'; exact him') (by rw [HP.out.2.2.2] at him; exact him) e
          subst this
          have := hS.inj (by rw [hlen]; omega) (by rw [hlen]; exact hlt) (hi'.trans hi.symm)
          omega
        obtain ⟨p, hp⟩ : ∃ p, plN n i = p := ⟨_, rfl⟩
        rw [hp] at cp0 hplt hinj
        have cp1 : wr.cell? ⟨pb, po + i, none⟩ = some (.int .i64 (p : Int)) := by rw [hDr.a.bel.cell (p := ⟨pb, po + i, none⟩) hpl]; exact cp0
        have d1 := hDr.a.cell k hlt
        have z1 := hDr.a.frz k hlt
        obtain ⟨W1, hW1⟩ : ∃ W1, W1 = wr.setCell ⟨D1, k, none⟩ (.int .i64 (p : Int)) := ⟨_, rfl⟩
        have hA1 := hDr.a.set hlt (p : Int)
        have hB1 := hDr.b.other (p := ⟨D1, k, none⟩) hDr.a.lo hDr.ne (.int .i64 (p : Int))
        have ck1 : W1.cell? ⟨bk, 0, none⟩ = some (.slice (some ⟨D2, 0, none⟩) n n) := by rw [hW1, World.cell?_setCell_other _ _ _ _ (ne_addr hne1)]; exact ckr
        rw [← hW1] at hA1 hB1
        have cp2 : W1.cell? ⟨pb, po + i, none⟩ = some (.int .i64 (p : Int)) := by rw [hA1.bel.cell (p := ⟨pb, po + i, none⟩) hpl]; exact cp0
        have d3 := hB1.cell p hplt
        have z3 := hB1.frz p hplt
        have hA2 := (hA1.other (p := ⟨D2, p, none⟩) hB1.lo (fun e => hDr.ne e.symm) (.int .i64 (k : Int))).kept ((Below.refl _ _).drew)
        have hB2 := (hB1.set hplt (k : Int)).kept ((Below.refl _ _).drew)
        have ck2 : (W1.setCell ⟨D2, p, none⟩ (.int .i64 (k : Int))).drew.cell? ⟨bk, 0, none⟩ = some (.slice (some ⟨D2, 0, none⟩) n n) := by
          show (W1.setCell ⟨D2, p, none⟩ (.int .i64 (k : Int))).cell? _ = _
          rw [World.cell?_setCell_other _ _ _ _ (ne_addr hne2)]; exact ck1
        have HS := Lib.hid (And.intro hA2 (And.intro hB2 (And.intro ck2 (And.intro hd2 (And.intro hdb (And.intro hinj (And.intro hi2 (And.intro hp hDr.ne))))))))
        subst hIe hPe
        clear hA1 hB1 hA2 hB2 ck2 hd2 hdb hinj hi2 hp hDr hS hBl hlen hwb ckr cp0 hi
        have q1 : (k : Int) < (m : Int) := by omega
        have q2 : (0 : Int) ≤ (k : Int) := by omega
        have q3 : (i : Int) < (m : Int) := by omega
        have q4 : (0 : Int) ≤ (i : Int) := by omega
        have q5 : (p : Int) < (n : Int) := by omega
        have q6 : (0 : Int) ≤ (p : Int) := by omega
        go_upto_region 8 with fail
        rw [← hW1]
        clear hW1 d1 z1 cp1
        go_region
        all_goals
          go_wp2
          go_roundw
          case rel =>
            obtain ⟨hA2, hB2, ck2, hd2, hdb, hinj, hi2, hp, hne⟩ := HS.out
            refine ⟨k + 1, _, by omega, by go_num, ⟨hA2.congr fun j hj => ?_, hB2, hne⟩, ck2, fun j hj => ?_, fun q => ?_⟩
            · by_cases e : j = k
              · rw [if_pos e, if_pos (by omega), e, hi2, hp]
              · rw [if_neg e]
                by_cases e2 : j < k
                · rw [if_pos e2, if_pos (by omega)]
                · rw [if_neg e2, if_neg (by omega)]
            · by_cases e : j = k
              · rw [e, hi2, hp, if_pos rfl]
              · rw [if_neg (hinj j (by omega))]
                exact hd2 j (by omega)
            · by_cases e : q = p
              · rw [if_pos e]; omega
              · rw [if_neg e]; exact hdb q
          case measure => simp [intOf]; omega
      · obtain rfl : k = m := by omega
        obtain ⟨m, rfl⟩ : ∃ m, m = k := ⟨_, rfl⟩
        have hr := HX.out.2.2.2.2.2.1
        have hln := HX.out.1.len
        have hn2 : 2 ≤ row.length := by omega
        -- the sample in order, and its ranks
        obtain ⟨fst, hfst⟩ : ∃ fst, fst = (List.range m).map fun j => ((plN n (inn.getD j 0).toNat : Nat) : Int) := ⟨_, rfl⟩
        obtain ⟨rks, hrks⟩ : ∃ rks, rks = (List.range n).map d2 := ⟨_, rfl⟩
        have hfl : fst.length = m := by rw [hfst]; simp
        have hrl : rks.length = n := by rw [hrks]; simp
        have hfa : ∀ j, j < m → fst.getD j 0 = ((plN n (inn.getD j 0).toNat : Nat) : Int) := fun j hj => by rw [hfst]; simp [List.getD_eq_getElem?_getD, hj]
        have hra : ∀ q, q < n → rks.getD q 0 = d2 q := fun q hq => by rw [hrks]; simp [List.getD_eq_getElem?_getD, hq]
        have hfn := hDr.a.nums hfl (fun j hj => by rw [if_pos hj, hfa j hj])
        have hrn := hDr.b.nums hrl (fun q hq => (hra q hq).symm)
        have hin : ∀ p, p < n → (n - p) % 3 ≠ 0 → ∃ a i, a < m ∧ inn.getD a 0 = ((i : Nat) : Int) ∧ i < m ∧ plN n i = p ∧ rks.getD p 0 = (a : Int) := fun p hp h3 => by
          obtain ⟨i, hi, he⟩ := plN_has n p hp h3
          have him : i < m := by rw [HP.out.2.2.2]; exact hi
          obtain ⟨a, ha, hae⟩ := hS.has i (by rw [hlen]; exact him)
          rw [hlen] at ha
          refine ⟨a, i, ha, hae, him, he, ?_⟩
          have := hd2 a ha
          rw [hae, Int.toNat_natCast, he] at this
          rw [hra p hp, this]
        have hRS : RkS row rks n := by
          intro p q hp hq hp3 hq3
          obtain ⟨a, i, ha, hae, him, hpe, hre⟩ := hin p hp hp3
          obtain ⟨b, j, hb, hbe, hjm, hqe, hse⟩ := hin q hq hq3
          rw [hre, hse, ← hpe, ← hqe]
          have h1 := hBl.iff hr hn2 (i := i) (j := j) (by rw [hlen]; exact him) (by rw [hlen]; exact hjm)
          rw [hln] at h1
          rw [← h1, ← hS.iff (by rw [hlen]; exact ha) (by rw [hlen]; exact hb) hae hbe]
          omega
        have hr64 : I64s rks := fun x hx => by
          rw [hrks] at hx
          obtain ⟨q, -, rfl⟩ := List.mem_map.1 hx
          have := hdb q
          omega
        have hRr := HP.out.1.kept hDr.a.bel
        have hcl : CL w (br + 1) br bk R n c row (some ⟨D2, 0, none⟩) n rks wr := ⟨by rw [hDr.a.bel.cell (p := ⟨br + 1, 0, none⟩) (World.block_lt_of_cell? u1 _ HP.out.2.1)]; exact HP.out.2.1, hRr, ⟨ckr, hrn, hrl, hwb⟩⟩
        have hot := others_any R (some ⟨D2, 0, none⟩) n c n row rks wr hRr.nums hln hrn hrl hn hr hr64 hRS
        have hfm : ∀ x ∈ fst, ∃ p : Nat, x = (p : Int) ∧ p < n ∧ (n - p) % 3 ≠ 0 := fun x hx => by
          rw [hfst] at hx
          obtain ⟨j, hj, rfl⟩ := List.mem_map.1 hx
          obtain ⟨i, hi, him⟩ := hS.pl (i := j) (by rw [hlen]; exact List.mem_range.1 hj)
          rw [hlen] at him
          have him' : i < thC n 1 + thC n 2 := by rw [HP.out.2.2.2] at him; exact him
          refine ⟨_, rfl, ?_, ?_⟩
          · rw [hi, Int.toNat_natCast]; exact plN_lt n i him'
          · rw [hi, Int.toNat_natCast]
            by_cases e : i < thC n 1
            · rw [plN_first n i e]; omega
            · rw [plN_second n i e him']; omega
        have hfp : fst.Pairwise (fun x y => sl (-1) row x.toNat y.toNat) := by
          rw [List.pairwise_iff_getElem]
          intro a b ha hb hab
          rw [hfl] at ha hb
          have e1 := hfa a ha
          have e2 := hfa b hb
          obtain ⟨i, hi, him⟩ := hS.pl (i := a) (by rw [hlen]; exact ha)
          obtain ⟨j, hj, hjm⟩ := hS.pl (i := b) (by rw [hlen]; exact hb)
          rw [hi, Int.toNat_natCast] at e1
          rw [hj, Int.toNat_natCast] at e2
          simp only [List.getD_eq_getElem?_getD, List.getElem?_eq_getElem (show a < fst.length by omega), List.getElem?_eq_getElem (show b < fst.length by omega), Option.getD_some] at e1 e2
          rw [e1, e2, Int.toNat_natCast, Int.toNat_natCast]
          have h1 := hBl.iff hr hn2 him hjm
          rw [hln] at h1
          rw [← h1]
          exact (hS.iff (by rw [hlen]; exact ha) (by rw [hlen]; exact hb) hi hj).1 hab
        have HQ := Lib.hid (And.intro hot (And.intro hcl (And.intro hfn (And.intro hfl (And.intro hfm (And.intro hfp (And.intro hRS (And.intro hr hln))))))))
        have cR := hRr.c0
        have q2 : ¬ (m : Int) < (m : Int) := by omega
        clear hot hcl hfn hfl hfm hfp hRS hr hln hn2 hrn hrl hfa hra hin hr64 hRr hfst hrks hDr hd2 hdb hS hBl hlen hwb
        go_wp2_with fail
        (with_reducible refine HQ.out.1.mono ?_)
        rintro e u2 ⟨D, L, rfl, hLn, hLl, hb2, hLp, hLm⟩
        have hcl2 := HQ.out.2.1.kept hb2
        have hfn2 := HQ.out.2.2.1.kept hb2
        have hLq : ∀ y ∈ L, ∃ q : Nat, y = (q : Int) ∧ q < n ∧ (n - q) % 3 = 0 := fun y hy => by
          obtain ⟨i, hi, rfl⟩ := (hLm y).1 hy
          obtain ⟨o1, o2, o3⟩ := oth_rest n i hi
          exact ⟨_, rfl, by omega, o2⟩
        have hLC : LessC u2 (.pointer (some ⟨br + 1, 0, none⟩)) (.pointer (some ⟨br, 0, none⟩)) (.pointer (some ⟨bk, 0, none⟩)) fst L (ltS row) := by
          intro u hu x hx y hy
          obtain ⟨p, rfl, hp, hp3⟩ := HQ.out.2.2.2.2.1 x hx
          obtain ⟨q, rfl, hq, hq3⟩ := hLq y hy
          exact lessc_any (br + 1) br bk R n c row (some ⟨D2, 0, none⟩) n rks w u (hcl2.kept hu) hn HQ.out.2.2.2.2.2.2.2.1 HQ.out.2.2.2.2.2.2.1 p q hp hp3 hq hq3
        have hmg := merged_any (some ⟨D1, 0, none⟩) (some ⟨D, 0, none⟩) m m (thC n 0) (thC n 0) fst L _ _ _ (ltS row) u2 hfn2 hLn HQ.out.2.2.2.1 hLl (Nat.le_refl _) (fun h => by cases h) (by omega) (by have := thC_le n 0; omega) hLC
        have HM := Lib.hid (And.intro hmg (And.intro hcl2.r.bel (And.intro hLq (And.intro hLp hLl))))
        clear hmg hcl2 hfn2 hLC hLq hLp hLl hLn hLm hb2 cR
        go_wp2_with fail
        (with_reducible refine HM.out.1.mono ?_)
        rintro e u3 ⟨v, rfl, hO⟩
        have HO := Lib.hid hO
        clear hO
        go_wp2
        go_ret
        obtain ⟨-, -, -, hfl, hfm, hfp, -, hr, hln⟩ := HQ.out
        obtain ⟨-, hwb, hLq, hLp, hLl⟩ := HM.out
        obtain ⟨A, ca, hve, hAn, hAl, hnc, -, -⟩ := nums_of_own HO.out.1
        have hml : (mrg (ltS row) fst L).length = n := by
          have := th_sums n
          have := HP.out.2.2.2
          unfold smpN at this
          rw [mrg_len, hfl, hLl]; omega
        rw [hml] at hve hnc
        refine ⟨A, ca, mrg (ltS row) fst L, by rw [hve]; rfl, hAn, hnc, hwb.trans (HO.out.2.mono hwb.size), ⟨by rw [hml, hln], fun x hx => ?_, ?_⟩, fun a ha => by have h1 := (HO.out.1.lt a.block (by rw [hve, ha]; rfl)).1; have h2 := hwb.size; omega⟩
        · rcases List.mem_append.1 ((mrg_perm _ _ _).mem_iff.1 hx) with h | h
          · obtain ⟨p, rfl, hp, -⟩ := hfm x h; omega
          · obtain ⟨q, rfl, hq, -⟩ := hLq x h; omega
        · refine mrg_pw (R := fun x y => sl (-1) row x.toNat y.toNat) (fun x y z h1 h2 => lx.trans h1 h2) L fst (fun a ha q hq => ?_) hfp hLp
          obtain ⟨p, rfl, hp, hp3⟩ := hfm a ha
          obtain ⟨q, rfl, hq, hq3⟩ := hLq q hq
          rw [Int.toNat_natCast, Int.toNat_natCast]
          refine ⟨fun h => (ltS_iff hr p q).1 h, fun h => ?_⟩
          have hne : p ≠ q := by rintro rfl; omega
          rcases sl_total hr.abv (p := p) (q := q) (by omega) (by omega) hne with h1 | h1
          · rw [(ltS_iff hr p q).2 h1] at h; cases h
          · exact h1

end Go.Proofs.YtpnjccomngdblaaGreat
end

section
/- The contracts of Array and Ranks. -/
set_option maxRecDepth 100000
namespace Go.Proofs.YtpnjccomngdblaaGreat
open Go.RowKit
open M
attribute [local go_sem ↓] Go.wp_at_zero Go.wp_at_succ

theorem info38 : (Tryz.prog.info? 38).map (fun i => (i.zero, i.size, i.bytes)) = some (some (.slice none 0 0), 1, 24) := by kernel_rfl

/-- The levels: each one is below the one ahead; the last one first. -/
def Lev (l : List Int) : List (List Int) → List Int → Prop
  | [], row => row = rnkL (kyI l) l.length
  | top :: rest, row => Lev l rest top ∧ Rk top ∧ 2 ≤ top.length ∧ Bel top row

/-- The values of the stack. -/
structure SV (u : World) (rs : List (List Int)) (vs : List Value) : Prop where
  len : vs.length = rs.length
  at' : ∀ j, j < rs.length → ∃ D, vs[j]? = some (.slice (some ⟨D, 0, none⟩) (rs.getD (rs.length - 1 - j) []).length (rs.getD (rs.length - 1 - j) []).length) ∧ NumsAt .i64 u (some ⟨D, 0, none⟩) (rs.getD (rs.length - 1 - j) [])
theorem SV.kept {u u' : World} {rs : List (List Int)} {vs : List Value} (h : SV u rs vs) (hb : Below u.heap.size u u') : SV u' rs vs :=
  ⟨h.len, fun j hj => by obtain ⟨D, h1, h2⟩ := h.at' j hj; exact ⟨D, h1, h2.kept hb⟩⟩

/-- The stack. -/
structure ST (w : World) (v : Value) (rs : List (List Int)) (u : World) : Prop where
  own : ∃ vs, u.ownsRow w.heap.size 38 1 v rs.length vs ∧ SV u rs vs
  bel : Below w.heap.size w u
theorem ST.kept {w u u' : World} {v : Value} {rs : List (List Int)} (h : ST w v rs u) (hb : Below u.heap.size u u') : ST w v rs u' := by
  obtain ⟨vs, h1, h2⟩ := h.own
  exact ⟨⟨vs, own_kept h1 hb, h2.kept hb⟩, h.bel.trans (hb.mono h.bel.size)⟩
theorem ST.nil {w u : World} (hb : Below w.heap.size w u) : ST w (.slice none 0 0) [] u := ⟨⟨[], World.ownsRow_nil _ _ _ _, rfl, fun j hj => by simp at hj⟩, hb⟩

/-- Numbers at the head of a block are in none of slices. -/
theorem nums_apart {u : World} {w0 : Nat} {v : Value} {n : Nat} {vs : List Value} (hown : u.ownsRow w0 38 1 v n vs) (hvs : ∀ j, j < n → ∃ A m c, vs[j]? = some (.slice A m c)) {D : Nat} {l : List Int} (h : NumsAt .i64 u (some ⟨D, 0, none⟩) l) (hn : 0 < n) (hl : 0 < l.length) : v.ownBlock ≠ some D := by
  intro e
  obtain ⟨A, m, c, h0⟩ := hvs 0 hn
  have h1 := hown.cells e 0 _ h0
  have e1 : (⟨D, 0, none⟩ : Addr).add 0 = ⟨D, 0, none⟩ := rfl
  rw [e1] at h1
  rcases h with h | ⟨b, off, hb, -, hc⟩
  · rw [h] at hl; simp at hl
  · simp only [Option.some.injEq, Addr.mk.injEq, and_true] at hb
    obtain ⟨rfl, rfl⟩ := hb
    have := hc 0 hl
    rw [Nat.add_zero, h1] at this
    cases this
theorem nums_kp22 {u u' : World} {w0 : Nat} {v : Value} {n : Nat} {vs : List Value} (hown : u.ownsRow w0 38 1 v n vs) (hvs : ∀ j, j < n → ∃ A m c, vs[j]? = some (.slice A m c)) {D : Nat} {l : List Int} (h : NumsAt .i64 u (some ⟨D, 0, none⟩) l) (hk : Kp (fun k => v.ownBlock = some k) u u') (hn0 : n = 0 → v = .slice none 0 0) (hl : 0 < l.length) : NumsAt .i64 u' (some ⟨D, 0, none⟩) l := by
  refine NumsAt.kp h hk (fun b o e ev => ?_)
  simp only [Option.some.injEq, Addr.mk.injEq, and_true] at e
  obtain ⟨rfl, rfl⟩ := e
  by_cases hn : n = 0
  · rw [hn0 hn] at ev; simp [Value.ownBlock] at ev
  · exact nums_apart hown hvs h (by omega) hl ev
/-- A level is put on the stack. -/
theorem ST.push {w u u' : World} {v v' : Value} {rs : List (List Int)} {vs : List Value} {D : Nat} {row : List Int} (hown : u.ownsRow w.heap.size 38 1 v rs.length vs) (hsv : SV u rs vs) (hb : Below w.heap.size w u) (hnil : rs.length = 0 → v = .slice none 0 0) (hrow : NumsAt .i64 u (some ⟨D, 0, none⟩) row) (hpos : ∀ r ∈ row :: rs, 0 < r.length)
    (hown' : u'.ownsRow w.heap.size 38 1 v' (rs.length + 1) (vs ++ [.slice (some ⟨D, 0, none⟩) row.length row.length])) (hg : u.grownBy u' v.ownBlock) : ST w v' (row :: rs) u' ∧ NumsAt .i64 u' (some ⟨D, 0, none⟩) row := by
  have hk : Kp (fun k => v.ownBlock = some k) u u' := (Kp.refl _ u).grown hg (fun k hk _ => hk)
  have hvs : ∀ j, j < rs.length → ∃ A m c, vs[j]? = some (.slice A m c) := fun j hj => by obtain ⟨D, h1, -⟩ := hsv.at' j hj; exact ⟨_, _, _, h1⟩
  have hrow' := nums_kp22 hown hvs hrow hk hnil (hpos row (by simp))
  refine ⟨⟨⟨_, hown', by simp [hsv.len], fun j hj => ?_⟩, hb.trans (hk.toBelow hb.size (fun k hk e => by have := (hown.lt k e).1; omega))⟩, hrow'⟩
  rw [List.length_cons] at hj
  by_cases e : j = rs.length
  · subst e
    refine ⟨D, ?_, ?_⟩
    · rw [List.getElem?_append_right (by rw [hsv.len]; exact Nat.le_refl _), hsv.len]
      simp
    · simpa using hrow'
  · obtain ⟨D2, h1, h2⟩ := hsv.at' j (by omega)
    have hidx : (row :: rs).getD ((row :: rs).length - 1 - j) [] = rs.getD (rs.length - 1 - j) [] := by
      rw [show (row :: rs).length - 1 - j = (rs.length - 1 - j) + 1 by rw [List.length_cons]; omega]
      simp
    rw [hidx]
    refine ⟨D2, by rw [List.getElem?_append_left (by rw [hsv.len]; omega)]; exact h1, nums_kp22 hown hvs h2 hk hnil ?_⟩
    refine hpos _ (List.mem_cons_of_mem _ ?_)
    rw [List.getD_eq_getElem?_getD, List.getElem?_eq_getElem (by omega), Option.getD_some]
    exact List.getElem_mem _

/-- The next level is less, or has none alike. -/
theorem not_df {row : List Int} (hr : Rk row) (h : ¬ Df row) : 2 ≤ row.length := by
  apply Nat.le_of_not_lt
  intro hlt
  apply h
  by_cases h0 : row.length = 0
  · exact .inl h0
  · refine .inr ?_
    have h1 := hr.nn _ (memI row 0 (by omega))
    have h2 := memI row 0 (by omega)
    rwa [show row.getD 0 0 = (row.length : Int) - 1 by omega] at h2
theorem bel_less {row three : List Int} (hr : Rk row) (h : ¬ Df row) (hB : Bel row three) : three.length ≤ row.length ∧ (¬ Df three → three.length + 1 ≤ row.length) := by
  have h2 := not_df hr h
  have hs := th_sums row.length
  rw [hB.len]
  refine ⟨by omega, fun hd => ?_⟩
  by_cases h3 : 3 ≤ row.length
  · have : 0 < thC row.length 0 := by
      have := th_vals row.length
      unfold thC
      omega
    omega
  · exfalso
    have hn : row.length = 2 := by omega
    apply hd
    refine hB.rk.inj_df (fun i j hi hj e => ?_)
    have hl := hB.len
    have e1 : thC 2 1 = 1 := by decide
    have e2 : thC 2 2 = 1 := by decide
    rw [hn, e1, e2] at hl
    have p0 : plN 2 0 = 1 := by decide
    have p1 : plN 2 1 = 0 := by decide
    have h1 := (hB.eq i j hi hj).1 e
    rw [hn] at h1
    have key : ¬ E3 row 1 0 := by
      rintro ⟨-, h1, -⟩
      rw [getD_out (by omega), getD_in (by omega), Nat.zero_add] at h1
      have := hr.nn _ (memI row 1 (by omega))
      omega
    have key' : ¬ E3 row 0 1 := fun ⟨a, b, c⟩ => key ⟨a.symm, b.symm, c.symm⟩
    rcases (show (i = 0 ∨ i = 1) ∧ (j = 0 ∨ j = 1) by omega) with ⟨rfl | rfl, rfl | rfl⟩
    · rfl
    · rw [p0, p1] at h1; exact absurd h1 key
    · rw [p0, p1] at h1; exact absurd h1 key'
    · rfl

/-- An order of the ranks is one of the row. -/
theorem sa_rank {l o : List Int} (h64 : I64s l) (h : SA (-1) (rnkL (kyI l) l.length) o) : o = sufA l := by
  have h1 : SA b0 l o := h.map (rnkL_length _ _) (fun p q hp hq hs => (sl_map (rnkL_length _ _) (rnk_rk _ _).abv (i64_abv h64) (fun i j hi hj => by
    rw [rnkL_length] at hi hj
    have := (rnk_lt (kyI l) l.length hi hj).1
    rw [this]
    unfold kyI
    rw [Int.toNat_natCast, Int.toNat_natCast]) p q).1 hs)
  exact h1.uniq (sufA_ok h64)

theorem own_shape {w : World} {base : Nat} {e : TypeId} {v : Value} {n : Nat} {xs : List Value} (h : w.ownsRow base e 1 v n xs) : ∃ G cap, v = .slice G n cap ∧ (0 < n → ∃ g, G = some ⟨g, 0, none⟩) := by
  obtain ⟨h1, h2⟩ := h
  rcases h2 with ⟨rfl, hn⟩ | ⟨g, cap, cur, rfl, -⟩
  · exact ⟨none, 0, by rw [hn], fun h => by omega⟩
  · exact ⟨some ⟨g, 0, none⟩, cap, rfl, fun _ => ⟨g, rfl⟩⟩

set_option maxHeartbeats 4000000 in
theorem array_any (A : Option Addr) (n c : Nat) (l : List Int) (w : World) (hA : NumsAt .i64 w A l) (hl : l.length = n) (hn : n ≤ 1000000) (h64 : I64s l) :
    Calls Tryz.prog 67 #[.slice A n c] w fun e u => ∃ A' ca, e = .returned (.slice A' n ca) ∧ NumsAt .i64 u A' (sufA l) ∧ n ≤ ca ∧ Below w.heap.size w u ∧ Frs w.heap.size A' := by
  have hrk := ranks_any A n c l w hA hl hn h64
  have HX := Lib.hid (And.intro hrk (And.intro hl h64))
  clear hA hl hrk h64
  go_enter Tryz.func67, Tryz.ntmps67
  go_wp2_with fail
  go_step3
  go_wp2_with fail
  (with_reducible refine HX.out.1.mono ?_)
  rintro e u1 ⟨D0, rfl, h1, h2⟩
  have HR := Lib.hid (And.intro h1 h2)
  clear h1 h2
  go_wp2
  go_step3
  go_wp2
  go_loopg [3, 4, 15] (n + 1) (fun g v3 v4 _ wr => ∃ (rs : List (List Int)) (row : List Int) (D : Nat), v4 = .slice (some ⟨D, 0, none⟩) row.length row.length ∧ ST w v3 rs wr ∧ (rs.length = 0 → v3 = .slice none 0 0) ∧ NumsAt .i64 wr (some ⟨D, 0, none⟩) row ∧ Rk row ∧ Lev l rs row ∧ (∀ r ∈ rs, 0 < r.length ∧ r.length ≤ n) ∧ row.length ≤ n ∧ rs.length + g ≤ n + 1 ∧ row.length ≤ g ∧ (¬ Df row → row.length + 1 ≤ g))
  case atStart => exact ⟨[], rnkL (kyI l) n, D0, by rw [rnkL_length], ST.nil HR.out.2, fun _ => rfl, HR.out.1, rnk_rk _ _, by rw [Lev, HX.out.2.1], fun r hr => by simp at hr, by rw [rnkL_length]; exact Nat.le_refl _, by simp, by rw [rnkL_length]; omega, fun _ => by rw [rnkL_length]; exact Nat.le_refl _⟩
  case round =>
    obtain ⟨rs, row, D, rfl, hST, hnil, hrow, hrk, hlev, hlen, hrn, hg, hg1, hg2⟩ := hrel
    clear HR
    have hdf := diff_any (some ⟨D, 0, none⟩) row.length row.length row wr hrow rfl (by omega) hrk
    have HH := Lib.hid (And.intro hST (And.intro hnil (And.intro hrow (And.intro hrk (And.intro hlev (And.intro hlen (And.intro hg2 hdf)))))))
    obtain ⟨k, hk⟩ : ∃ k, row.length = k := ⟨_, rfl⟩
    rw [hk] at hrn hg1 HH ⊢
    have HK := Lib.hid hk
    clear hST hnil hrow hrk hlev hlen hg2 hdf hk
    go_wp2_with fail
    (with_reducible refine HH.out.2.2.2.2.2.2.2.mono ?_)
    rintro e u2 ⟨⟨r, rfl, hr⟩, rfl⟩
    have HRR := Lib.hid hr
    clear hr
    cases r with
    | false =>
      have hnd : ¬ Df row := fun h => by have := HRR.out.2 h; cases this
      obtain ⟨vs, ho, hsv⟩ := HH.out.1.own
      have h2 := not_df HH.out.2.2.2.1 hnd
      have hrg := HH.out.2.2.2.2.2.2.1 hnd
      have hal : Below u2.heap.size u2 (u2.alloc (.cells #[.slice (some ⟨D, 0, none⟩) k k] 38)) := al _ _
      have hST1 := HH.out.1.bel.trans (hal.mono HH.out.1.bel.size)
      have ho1 := own_kept ho hal
      have hsv1 := hsv.kept hal
      have hrow1 := HH.out.2.2.1.kept hal
      have HA := Lib.hid (And.intro ho1 (And.intro hsv1 (And.intro hrow1 (And.intro hST1 hnd))))
      obtain ⟨i0, hi, hz0, hz1, hz2⟩ := info_parts info38
      have hsz := hST1.size
      rw [HK.out] at h2
      clear ho hsv hal hST1 ho1 hsv1 hrow1 hnd
      go_wp2_with (first
        | (at_builtin
           refine wpList_append_own_at _ rfl (.tmp 9) (.tmp 11) 116 rfl w.heap.size 38 i0 (.slice none 0 0) 1 24 Tryz.underlying116 hi hz0 hz1 hz2 rfl (by omega) _ _ _ rfl HA.out.1 ⟨_, 0, none⟩ 1 1 [.slice (some ⟨D, 0, none⟩) k k] rfl rfl ?c1 ?c2 ?c3 ?c4 ?c5 ?_))
      case c1 =>
        intro j u hu
        cases j with
        | zero =>
          simp only [List.getElem?_cons_zero, Option.some.injEq] at hu
          subst hu
          rw [show (⟨u2.heap.size, 0, none⟩ : Addr).add 0 = ⟨u2.heap.size, 0, none⟩ from rfl, cell_new _ _ _ _ _ rfl]; rfl
        | succ j => simp at hu
      case c2 => intro u hu; simp at hu; subst hu; rfl
      case c3 => unfold maxLen; omega
      case c4 => omega
      case c5 => exact hsz
      intro v' w5 hown hgrow _ _
      obtain ⟨hST5, hrow5⟩ := ST.push HA.out.1 HA.out.2.1 HA.out.2.2.2.1 HH.out.2.1 HA.out.2.2.1 (by
        intro r hr
        rcases List.mem_cons.1 hr with e | e
        · rw [e, HK.out]; omega
        · exact (HH.out.2.2.2.2.2.1 r e).1) (by rw [HK.out]; exact hown) hgrow
      have hbl := below_any (some ⟨D, 0, none⟩) k k row w5 hrow5 HK.out (by omega) HH.out.2.2.2.1
      have H5 := Lib.hid (And.intro hST5 hbl)
      clear hown hgrow hST5 hrow5 hbl hi hz0 hz1 hz2 hsz
      go_wp2_with fail
      (with_reducible refine H5.out.2.mono ?_)
      rintro e u3 ⟨D2, three, rfl, h3, hB, hb⟩
      have hls := bel_less HH.out.2.2.2.1 HA.out.2.2.2.2 hB
      have h3l : three.length = smpN k := by rw [hB.len, HK.out]; rfl
      have H6 := Lib.hid (And.intro (H5.out.1.kept hb) (And.intro h3 (And.intro hB (And.intro hls h3l))))
      clear h3 hB hb hls h3l
      go_wp2
      go_roundg (gk - 1)
      case measure => omega
      case rel =>
        obtain ⟨hST, h3, hB, ⟨hls1, hls2⟩, h3l⟩ := H6.out
        rw [HK.out] at hls1 hls2
        refine ⟨row :: rs, three, D2, by rw [h3l], hST, fun h => by simp at h, h3, hB.rk, ⟨HH.out.2.2.2.2.1, HH.out.2.2.2.1, by rw [HK.out]; exact h2, hB⟩, fun r hr => ?_, by omega, by simp only [List.length_cons]; omega, by omega, fun h => by have := hls2 h; omega⟩
        rcases List.mem_cons.1 hr with e | e
        · rw [e, HK.out]; omega
        · exact HH.out.2.2.2.2.2.1 r e
    | true =>
      have hdf : Df row := HRR.out.1 rfl
      have htu := turned_any (some ⟨D, 0, none⟩) k k row u2 HH.out.2.2.1 HK.out (by omega) (HH.out.2.2.2.1.all hdf)
      have HT := Lib.hid (And.intro htu hdf)
      clear htu hdf
      go_wp2_with fail
      (with_reducible refine HT.out.1.mono ?_)
      rintro e u3 ⟨D2, L, hLl, rfl, hLn, hLq, hb, hlo⟩
      have hlo2 : Frs w.heap.size (some ⟨D2, 0, none⟩) := fun a ha => by cases ha; exact Nat.le_trans HH.out.1.bel.size hlo
      have HLO := Lib.hid hlo2
      clear hlo hlo2
      have hsa : SA (-1) row L := HH.out.2.2.2.1.turn HT.out.2 (hLl.trans HK.out.symm) (by rw [HK.out]; exact hLq)
      have hrl : rs.length ≤ n + 1 := by omega
      obtain ⟨t, hte⟩ : ∃ t, t = rs.length := ⟨_, rfl⟩
      have hST := HH.out.1.kept hb
      obtain ⟨vs, ho, hsv⟩ := hST.own
      obtain ⟨G, cap, rfl, hG⟩ := own_shape ho
      have H3 := Lib.hid (And.intro hsa (And.intro hLn (And.intro hLl (And.intro hST.bel (And.intro ho (And.intro hsv (And.intro hG hte)))))))
      rw [← hte] at hrl ⊢
      clear hLl hLn hLq hb hsa hST ho hsv HRR hG hte HT
      have q0 : IntKind.i64.wrap ((t : Int) - 1) = (t : Int) - 1 := IntWalk.i64_in _ (by omega)
      obtain ⟨w3, rfl⟩ : ∃ w3, w3 = u3 := ⟨_, rfl⟩
      go_wp2
      go_loopw [5, 6] (fun v5 v6 wr => ∃ (s : Nat) (cur o : List Int) (A' : Option Addr) (ca : Nat), s ≤ t ∧ v6 = .int .i64 ((s : Int) - 1) ∧ v5 = .slice A' cur.length ca ∧ NumsAt .i64 wr A' o ∧ SA (-1) cur o ∧ cur.length ≤ ca ∧ Lev l (rs.drop (t - s)) cur ∧ Below w3.heap.size w3 wr ∧ Frs w.heap.size A') (fun _ v6 _ => (intOf v6 + 1).toNat)
      case atStart =>
        refine ⟨t, row, L, some ⟨D2, 0, none⟩, k, Nat.le_refl _, rfl, by rw [HK.out], H3.out.2.1, H3.out.1, by rw [HK.out]; exact Nat.le_refl _, ?_, Below.refl _ _, HLO.out⟩
        rw [Nat.sub_self, List.drop_zero]; exact HH.out.2.2.2.2.1
      case round =>
        obtain ⟨s, cur, o, A', ca, hs, rfl, rfl, hon, hso, hca, hlv, hbw, hfr⟩ := hrel
        have HFR := Lib.hid hfr
        clear hfr
        by_cases h0 : 0 < s
        · obtain ⟨j, rfl⟩ : ∃ j, s = j + 1 := ⟨s - 1, by omega⟩
          obtain ⟨-, -, -, -, ho, hsv, hG, hte⟩ := H3.out
          obtain ⟨g, rfl⟩ := hG (by omega)
          have hix : rs.drop (t - (j + 1)) = rs.getD (t - (j + 1)) [] :: rs.drop (t - j) := by
            rw [List.drop_eq_getElem_cons (by omega), List.getD_eq_getElem?_getD, List.getElem?_eq_getElem (by omega), Option.getD_some, show t - (j + 1) + 1 = t - j by omega]
          rw [hix] at hlv
          obtain ⟨hl1, hl2, hl3, hl4⟩ := hlv
          obtain ⟨Dj, hv, hn'⟩ := hsv.at' j (by omega)
          rw [← hte, show t - 1 - j = t - (j + 1) by omega] at hv hn'
          have htm : rs.getD (t - (j + 1)) [] ∈ rs := by
            rw [List.getD_eq_getElem?_getD, List.getElem?_eq_getElem (by omega), Option.getD_some]
            exact List.getElem_mem _
          have htl := (HH.out.2.2.2.2.2.1 _ htm).2
          have hcl := hl4.len
          have hcell := ho.cellAt j (by omega)
          rw [hv, ← hbw.cell (p := ⟨g, j, none⟩) (ho.lt g rfl).2] at hcell
          obtain ⟨top, htop⟩ : ∃ top, top = rs.getD (t - (j + 1)) [] := ⟨_, rfl⟩
          rw [← htop] at hl1 hl2 hl3 hl4 hcl hn' htl hcell
          have hcl2 : cur.length = smpN top.length := hcl
          obtain ⟨kt, hkt⟩ : ∃ kt, top.length = kt := ⟨_, rfl⟩
          rw [hkt] at hcl2 hl3 htl hcell
          have hab := above_any (some ⟨Dj, 0, none⟩) A' kt kt ca top cur o wr (hn'.kept hbw) hkt hon (by rw [hso.len, hcl2]) (by omega) hl3 hl2 hl4 hso
          have H4 := Lib.hid (And.intro hab (And.intro hl1 (And.intro hkt hbw)))
          rw [hcl2]
          clear hab hl1 hl2 hl4 hkt hbw hcl hcl2 hon hso hn' hv htm hix htop hsv ho hG hte
          have q1 : IntKind.i64.wrap (((j + 1 : Nat) : Int) - 1) = (j : Int) := by rw [Int.natCast_add]; exact (IntWalk.i64_in _ (by omega)).trans (by omega)
          have q2 : (((j + 1 : Nat) : Int) - 1) = (j : Int) := by omega
          have q3 : (0 : Int) ≤ (j : Int) := by omega
          have q4 : (j : Int) < (t : Int) := by omega
          have q5 : IntKind.i64.wrap ((j : Int) - 1) = (j : Int) - 1 := IntWalk.i64_in _ (by omega)
          rw [q2]
          go_wp2_with fail
          (with_reducible refine H4.out.1.mono ?_)
          rintro e u4 ⟨A2, c2, O, rfl, h1, h2, h3, h4, h5⟩
          have H5 := Lib.hid (And.intro h1 (And.intro h2 (And.intro h3 (And.intro h4 h5))))
          clear h1 h2 h3 h4 h5
          go_wp2
          go_roundw
          case rel =>
            obtain ⟨h1, h2, h3, h4, h5⟩ := H5.out
            obtain ⟨-, hl1, hkt, hbw⟩ := H4.out
            exact ⟨j, top, O, A2, c2, by omega, rfl, by rw [hkt], h1, h4, by rw [hkt]; exact h2, hl1, hbw.trans (h3.mono hbw.size), h5.mono (Nat.le_trans H3.out.2.2.2.1.size hbw.size)⟩
          case measure => simp [intOf]
        · obtain rfl : s = 0 := by omega
          have hte := H3.out.2.2.2.2.2.2.2
          have hwb := H3.out.2.2.2.1
          rw [Nat.sub_zero, hte, List.drop_length] at hlv
          have hcl : cur.length = n := by rw [hlv, rnkL_length, HX.out.2.1]
          rw [hlv] at hso
          have hoe := sa_rank HX.out.2.2 hso
          rw [hoe] at hon
          rw [hcl] at hca ⊢
          have H4 := Lib.hid (And.intro hon (hwb.trans (hbw.mono hwb.size)))
          clear hon hso hoe hlv hcl hte hwb hbw
          go_wp2
          try rw [Exit.noGoto_ret]
          go_ret
          exact ⟨A', ca, rfl, H4.out.1, hca, H4.out.2, HFR.out⟩

end Go.Proofs.YtpnjccomngdblaaGreat
end

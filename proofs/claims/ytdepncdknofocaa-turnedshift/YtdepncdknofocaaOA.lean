/- Plain facts on putting places in order: 'Same': those of one key stand in one order in both; digit by digit; buckets. No program is named here. -/
import Derived.Test.YtdepncdknofocaaRows
namespace Go.Proofs.Ytdepncdknofocaa

variable {α : Type} {κ δ : α → Int}

/-- Those of one key stand in one order in both. -/
def Same (κ : α → Int) (xs ys : List α) : Prop := ∀ k, xs.filter (fun x => decide (κ x = k)) = ys.filter (fun x => decide (κ x = k))
/-- Keys never fall. -/
def Pw (κ : α → Int) (l : List α) : Prop := l.Pairwise (fun a b => κ a ≤ κ b)
theorem Same.refl (κ : α → Int) (xs : List α) : Same κ xs xs := fun _ => rfl
theorem Same.trans {xs ys zs : List α} (h : Same κ xs ys) (k : Same κ ys zs) : Same κ xs zs := fun i => (h i).trans (k i)
theorem Same.symm {xs ys : List α} (h : Same κ xs ys) : Same κ ys xs := fun i => (h i).symm
theorem Same.app {xs ys zs us : List α} (h : Same κ xs ys) (k : Same κ zs us) : Same κ (xs ++ zs) (ys ++ us) := fun i => by rw [List.filter_append, List.filter_append, h i, k i]
theorem Same.swap {xs ys : List α} (h : ∀ x ∈ xs, ∀ y ∈ ys, κ x ≠ κ y) : Same κ (xs ++ ys) (ys ++ xs) := by
  intro k
  rw [List.filter_append, List.filter_append]
  by_cases hx : ∃ x ∈ xs, κ x = k
  · obtain ⟨x, hx1, hx2⟩ := hx
    have : ys.filter (fun x => decide (κ x = k)) = [] := by
      rw [List.filter_eq_nil_iff]
      intro y hy
      have := h x hx1 y hy
      simp; omega
    rw [this]; simp
  · have : xs.filter (fun x => decide (κ x = k)) = [] := by
      rw [List.filter_eq_nil_iff]
      intro y hy
      simp only [decide_eq_true_eq]
      exact fun e => hx ⟨y, hy, e⟩
    rw [this]; simp
theorem Same.mem {xs ys : List α} (h : Same κ xs ys) {x : α} (hx : x ∈ xs) : x ∈ ys := by
  have : x ∈ xs.filter (fun y => decide (κ y = κ x)) := by simp [hx]
  rw [h (κ x)] at this
  exact (List.mem_filter.1 this).1
theorem Same.nil {ys : List α} (h : Same κ [] ys) : ys = [] := by
  cases ys with
  | nil => rfl
  | cons y ys => have := h.symm.mem (x := y) (by simp); simp at this
theorem filter_cons_pos' {p : α → Bool} {a : α} {t : List α} (h : p a = true) : (a :: t).filter p = a :: t.filter p := by rw [List.filter_cons, if_pos h]
theorem Same.perm : ∀ {xs ys : List α}, Same κ xs ys → xs.Perm ys := by
  intro xs
  induction xs with
  | nil => intro ys h; rw [h.nil]
  | cons x xs ih =>
    intro ys h
    have hm : x ∈ ys := h.mem (by simp)
    have hf := h (κ x)
    rw [filter_cons_pos' (by simp)] at hf
    obtain ⟨l1, bs, e1, e2⟩ : ∃ l1 bs, ys = l1 ++ x :: bs ∧ ∀ a ∈ l1, κ a ≠ κ x := by
      clear ih h hm
      induction ys with
      | nil => simp at hf
      | cons y ys ih2 =>
        by_cases e : κ y = κ x
        · rw [filter_cons_pos' (by simpa using e)] at hf
          have := (List.cons.inj hf).1
          exact ⟨[], ys, by rw [this]; rfl, by simp⟩
        · rw [List.filter_cons, if_neg (by simpa using e)] at hf
          obtain ⟨l1, bs, e1, e2⟩ := ih2 hf
          exact ⟨y :: l1, bs, by rw [e1]; rfl, by intro a ha; rcases List.mem_cons.1 ha with h | h; · rw [h]; exact e
                                                  · exact e2 a h⟩
    subst e1
    have h2 : Same κ xs (l1 ++ bs) := by
      intro k
      have h3 := h k
      rw [List.filter_append] at h3 ⊢
      by_cases e : κ x = k
      · have e3 : l1.filter (fun x => decide (κ x = k)) = [] := by
          rw [List.filter_eq_nil_iff]
          intro a ha
          have := e2 a ha
          simp only [decide_eq_true_eq]; omega
        rw [e3, filter_cons_pos' (by simpa using e), filter_cons_pos' (by simpa using e)] at h3
        rw [e3]
        exact (List.cons.inj h3).2
      · rw [List.filter_cons, if_neg (by simpa using e), List.filter_cons, if_neg (by simpa using e)] at h3
        exact h3
    exact ((ih h2).cons x).trans (List.perm_middle.symm)
theorem Same.congr {κ' : α → Int} {xs ys : List α} (h : Same κ xs ys) (hk : ∀ x ∈ xs, κ x = κ' x) : Same κ' xs ys := by
  intro k
  have e1 : xs.filter (fun x => decide (κ' x = k)) = xs.filter (fun x => decide (κ x = k)) := List.filter_congr fun x hx => by rw [hk x hx]
  have e2 : ys.filter (fun x => decide (κ' x = k)) = ys.filter (fun x => decide (κ x = k)) := List.filter_congr fun x hx => by rw [hk x (h.symm.mem hx)]
  rw [e1, e2, h k]
theorem Pw.congr {κ' : α → Int} {ys : List α} (h : Pw κ ys) (hk : ∀ x ∈ ys, κ x = κ' x) : Pw κ' ys :=
  List.Pairwise.imp_of_mem (fun {a b} ha hb hab => by rw [← hk a ha, ← hk b hb]; exact hab) h

theorem same_cons_head {a b : α} {s t : List α} (h : Same κ (a :: s) (b :: t)) (h1 : ∀ x ∈ s, κ a ≤ κ x) (h2 : ∀ x ∈ t, κ b ≤ κ x) : a = b ∧ Same κ s t := by
  have ha : a ∈ b :: t := h.mem (by simp)
  have hb : b ∈ a :: s := h.symm.mem (by simp)
  have hk : κ a = κ b := by
    have e1 : κ b ≤ κ a := by
      rcases List.mem_cons.1 ha with e | e
      · rw [e]; exact Int.le_refl _
      · exact h2 a e
    have e2 : κ a ≤ κ b := by
      rcases List.mem_cons.1 hb with e | e
      · rw [e]; exact Int.le_refl _
      · exact h1 b e
    omega
  have hf := h (κ a)
  rw [List.filter_cons, if_pos (by simp), List.filter_cons, if_pos (by simp [hk])] at hf
  have hab : a = b := (List.cons.inj hf).1
  subst hab
  refine ⟨rfl, fun k => ?_⟩
  have := h k
  rw [List.filter_cons, List.filter_cons] at this
  by_cases e : κ a = k
  · rw [if_pos (by simpa using e), if_pos (by simpa using e)] at this
    exact (List.cons.inj this).2
  · rw [if_neg (by simpa using e), if_neg (by simpa using e)] at this
    exact this
/-- An order that keeps what stands ahead is one alone. -/
theorem same_uniq : ∀ {ys zs : List α}, Same κ ys zs → Pw κ ys → Pw κ zs → ys = zs := by
  intro ys
  induction ys with
  | nil => intro zs h _ _; exact (h.nil).symm
  | cons a s ih =>
    intro zs h h1 h2
    cases zs with
    | nil => have := h.symm.nil; cases this
    | cons b t =>
      unfold Pw at h1 h2
      rw [List.pairwise_cons] at h1 h2
      obtain ⟨e, hs⟩ := same_cons_head h h1.1 h2.1
      rw [e, ih hs h1.2 h2.2]

/-! ## Digit by digit -/

theorem pw_two : ∀ {l : List α}, Pw δ l → (∀ d, Pw κ (l.filter (fun x => decide (δ x = d)))) → l.Pairwise (fun a b => δ a < δ b ∨ (δ a = δ b ∧ κ a ≤ κ b)) := by
  intro l
  induction l with
  | nil => intro _ _; exact List.Pairwise.nil
  | cons a t ih =>
    intro h1 h2
    unfold Pw at h1 h2
    rw [List.pairwise_cons] at h1
    rw [List.pairwise_cons]
    refine ⟨fun b hb => ?_, ih h1.2 fun d => ?_⟩
    · have := h1.1 b hb
      by_cases e : δ a = δ b
      · refine .inr ⟨e, ?_⟩
        have h3 := h2 (δ a)
        rw [List.filter_cons, if_pos (by simp), List.pairwise_cons] at h3
        exact h3.1 b (List.mem_filter.2 ⟨hb, by simp [e]⟩)
      · exact .inl (by omega)
    · have h3 := h2 d
      rw [List.filter_cons] at h3
      split at h3
      · exact (List.pairwise_cons.1 h3).2
      · exact h3

theorem lsd_num {B d k x : Int} (h : 0 ≤ k ∧ k < B) : d * B + k = x ↔ d = x / B ∧ k = x % B := by
  have hB : 0 < B := by omega
  constructor
  · intro e
    subst e
    rw [Int.add_comm, Int.add_mul_ediv_right _ _ (by omega), Int.add_mul_emod_self_right, Int.ediv_eq_zero_of_lt h.1 h.2, Int.emod_eq_of_lt h.1 h.2]
    omega
  · rintro ⟨e1, e2⟩
    rw [e1, e2, Int.mul_comm]
    exact Int.mul_ediv_add_emod x B

/-- In order by a digit, and by what was in order before. -/
theorem lsd {B : Int} {xs ys zs : List α} (hB : ∀ x ∈ xs, 0 ≤ κ x ∧ κ x < B) (h1 : Same κ xs ys) (p1 : Pw κ ys) (h2 : Same δ ys zs) (p2 : Pw δ zs) :
    Same (fun x => δ x * B + κ x) xs zs ∧ Pw (fun x => δ x * B + κ x) zs := by
  have hz : ∀ x ∈ zs, 0 ≤ κ x ∧ κ x < B := fun x hx => hB x (h1.symm.mem (h2.symm.mem hx))
  have key : ∀ (l : List α), (∀ x ∈ l, 0 ≤ κ x ∧ κ x < B) → ∀ k, l.filter (fun x => decide (δ x * B + κ x = k)) = (l.filter (fun x => decide (δ x = k / B))).filter (fun x => decide (κ x = k % B)) := by
    intro l hl k
    rw [List.filter_filter]
    apply List.filter_congr
    intro x hx
    rw [← Bool.decide_and, decide_eq_decide, lsd_num (hl x hx)]
    exact And.comm
  constructor
  · intro k
    rw [key xs hB, key zs hz, ← h2 (k / B), List.filter_filter, List.filter_filter]
    have e : ∀ l : List α, l.filter (fun a => decide (κ a = k % B) && decide (δ a = k / B)) = (l.filter (fun x => decide (κ x = k % B))).filter (fun x => decide (δ x = k / B)) := fun l => by
      rw [List.filter_filter]
      apply List.filter_congr
      intro x _
      exact Bool.and_comm _ _
    rw [e, e, h1]
  · have := pw_two p2 (κ := κ) fun d => by
      rw [← h2 d]
      exact List.Pairwise.filter _ p1
    refine List.Pairwise.imp_of_mem (fun {a b} ha hb hab => ?_) this
    have ra := hz a ha
    have rb := hz b hb
    show δ a * B + κ a ≤ δ b * B + κ b
    rcases hab with h | ⟨h, h'⟩
    · have : (δ a + 1) * B ≤ δ b * B := Int.mul_le_mul_of_nonneg_right (by omega) (by omega)
      rw [Int.add_mul] at this
      omega
    · rw [h]; omega

/-- The low digits of a number; one digit. -/
def lowD (u : α → Nat) (j : Nat) (x : α) : Int := ((u x % 2 ^ j : Nat) : Int)
def digD (u : α → Nat) (j : Nat) (x : α) : Int := ((u x / 2 ^ j % 256 : Nat) : Int)
theorem lowD_succ (u : α → Nat) (j : Nat) (x : α) : digD u j x * ((2 ^ j : Nat) : Int) + lowD u j x = lowD u (j + 8) x := by
  unfold digD lowD
  rw [Nat.pow_add, show (2 : Nat) ^ 8 = 256 from rfl, Nat.mod_mul]
  rw [Int.natCast_add, Int.natCast_mul, Int.mul_comm, Int.add_comm]
theorem lowD_lt (u : α → Nat) (j : Nat) (x : α) : 0 ≤ lowD u j x ∧ lowD u j x < ((2 ^ j : Nat) : Int) := by
  unfold lowD
  have := Nat.mod_lt (u x) (Nat.pow_pos (n := j) (by decide : 0 < 2))
  omega
theorem low_start (u : α → Nat) (xs : List α) : Same (lowD u 0) xs xs ∧ Pw (lowD u 0) xs :=
  ⟨Same.refl _ _, List.Pairwise.imp_of_mem (fun {a b} _ _ _ => by simp [lowD, Nat.mod_one]) (List.pairwise_of_forall (R := fun _ _ => True) (fun _ _ => trivial) (l := xs))⟩
theorem low_step {u : α → Nat} {j : Nat} {xs ys zs : List α} (h1 : Same (lowD u j) xs ys ∧ Pw (lowD u j) ys) (h2 : Same (digD u j) ys zs ∧ Pw (digD u j) zs) : Same (lowD u (j + 8)) xs zs ∧ Pw (lowD u (j + 8)) zs := by
  have := lsd (κ := lowD u j) (δ := digD u j) (B := ((2 ^ j : Nat) : Int)) (fun x _ => lowD_lt u j x) h1.1 h1.2 h2.1 h2.2
  have e : (fun x => digD u j x * ((2 ^ j : Nat) : Int) + lowD u j x) = lowD u (j + 8) := funext fun x => lowD_succ u j x
  rwa [e] at this
theorem pw_const {xs : List α} {c : Int} (h : ∀ x ∈ xs, κ x = c) : Pw κ xs :=
  List.Pairwise.imp_of_mem (fun {a b} ha hb _ => by rw [h a ha, h b hb]; exact Int.le_refl _) (List.pairwise_of_forall (R := fun _ _ => True) (fun _ _ => trivial) (l := xs))
theorem low_skip {u : α → Nat} {j : Nat} {xs ys : List α} {c : Int} (h1 : Same (lowD u j) xs ys ∧ Pw (lowD u j) ys) (h2 : ∀ x ∈ xs, digD u j x = c) : Same (lowD u (j + 8)) xs ys ∧ Pw (lowD u (j + 8)) ys :=
  low_step h1 ⟨Same.refl _ _, pw_const fun x hx => h2 x (h1.1.symm.mem hx)⟩
/-- Where what is above is alike for all, the order is by the whole number. -/
theorem low_end {u : α → Nat} {j : Nat} {xs ys : List α} {c : Nat} (h1 : Same (lowD u j) xs ys ∧ Pw (lowD u j) ys) (h2 : ∀ x ∈ xs, u x / 2 ^ j = c) : Same (fun x => (u x : Int)) xs ys ∧ Pw (fun x => (u x : Int)) ys := by
  have hc : ∀ x ∈ xs, ((u x / 2 ^ j : Nat) : Int) = (c : Int) := fun x hx => by rw [h2 x hx]
  have := lsd (κ := lowD u j) (δ := fun x => ((u x / 2 ^ j : Nat) : Int)) (B := ((2 ^ j : Nat) : Int)) (fun x _ => lowD_lt u j x) h1.1 h1.2 (Same.refl _ ys) (pw_const fun x hx => hc x (h1.1.symm.mem hx))
  have e : (fun x => ((u x / 2 ^ j : Nat) : Int) * ((2 ^ j : Nat) : Int) + lowD u j x) = fun x => (u x : Int) := funext fun x => by
    unfold lowD
    rw [← Int.natCast_mul, ← Int.natCast_add, Nat.mul_comm, Nat.div_add_mod]
  rwa [e] at this
theorem Same.shift {c : Int} {xs ys : List α} (h : Same (fun x => κ x + c) xs ys ∧ Pw (fun x => κ x + c) ys) : Same κ xs ys ∧ Pw κ ys := by
  refine ⟨fun k => ?_, h.2.imp fun {a b} h => by have h' : κ a + c ≤ κ b + c := h; omega⟩
  have := h.1 (k + c)
  have e : ∀ l : List α, l.filter (fun x => decide (κ x + c = k + c)) = l.filter (fun x => decide (κ x = k)) := fun l => List.filter_congr fun x _ => by rw [decide_eq_decide]; omega
  rw [e, e] at this
  exact this

/-! ## Buckets -/

def bk (δ : α → Nat) (l : List α) (d : Nat) : List α := l.filter (fun x => decide (δ x = d))
def st (δ : α → Nat) (l : List α) (d : Nat) : Nat := (l.filter (fun x => decide (δ x < d))).length
def bks (δ : α → Nat) (l : List α) (D : Nat) : List α := (List.range D).flatMap (bk δ l)

theorem st_zero (δ : α → Nat) (l : List α) : st δ l 0 = 0 := by simp [st]
theorem st_succ (δ : α → Nat) (l : List α) (d : Nat) : st δ l (d + 1) = st δ l d + (bk δ l d).length := by
  unfold st bk
  induction l with
  | nil => rfl
  | cons x l ih =>
    rw [List.filter_cons, List.filter_cons, List.filter_cons]
    by_cases h1 : δ x < d
    · rw [if_pos (by simp; omega), if_pos (by simpa using h1), if_neg (by simp; omega), List.length_cons, List.length_cons, ih]; omega
    · by_cases h2 : δ x = d
      · rw [if_pos (by simp; omega), if_neg (by simpa using h1), if_pos (by simpa using h2), List.length_cons, List.length_cons, ih]; omega
      · rw [if_neg (by simp; omega), if_neg (by simpa using h1), if_neg (by simpa using h2), ih]
theorem st_mono (δ : α → Nat) (l : List α) {i k : Nat} (h : i ≤ k) : st δ l i ≤ st δ l k := by
  induction k with
  | zero => rw [show i = 0 by omega]; exact Nat.le_refl _
  | succ k ih =>
    by_cases e : i = k + 1
    · rw [e]; exact Nat.le_refl _
    · rw [st_succ]; exact Nat.le_trans (ih (by omega)) (Nat.le_add_right _ _)
theorem st_all (δ : α → Nat) (l : List α) (D : Nat) (h : ∀ x ∈ l, δ x < D) : st δ l D = l.length := by
  unfold st
  rw [List.filter_eq_self.2 (fun x hx => by simpa using h x hx)]
theorem st_le (δ : α → Nat) (l : List α) (D : Nat) : st δ l D ≤ l.length := List.length_filter_le _ _
theorem bks_succ (δ : α → Nat) (l : List α) (D : Nat) : bks δ l (D + 1) = bks δ l D ++ bk δ l D := by
  unfold bks
  rw [List.range_succ, List.flatMap_append]; simp
theorem bks_length (δ : α → Nat) (l : List α) (D : Nat) : (bks δ l D).length = st δ l D := by
  induction D with
  | zero => rw [st_zero]; rfl
  | succ D ih => rw [bks_succ, List.length_append, ih, st_succ]
theorem bks_get (δ : α → Nat) (l : List α) {d j : Nat} (hj : j < (bk δ l d).length) : ∀ D, d < D → (bks δ l D)[st δ l d + j]? = (bk δ l d)[j]? := by
  intro D
  induction D with
  | zero => intro h; omega
  | succ D ih =>
    intro hd
    rw [bks_succ]
    by_cases e : d = D
    · subst e
      rw [List.getElem?_append_right (by rw [bks_length]; omega), bks_length, Nat.add_sub_cancel_left]
    · rw [List.getElem?_append_left, ih (by omega)]
      rw [bks_length]
      have h1 := st_succ δ l d
      have h2 := st_mono δ l (show d + 1 ≤ D by omega)
      omega
theorem bks_at (δ : α → Nat) (l : List α) : ∀ D p, p < st δ l D → ∃ d j, d < D ∧ j < (bk δ l d).length ∧ p = st δ l d + j := by
  intro D
  induction D with
  | zero => intro p hp; rw [st_zero] at hp; omega
  | succ D ih =>
    intro p hp
    rw [st_succ] at hp
    by_cases h : p < st δ l D
    · obtain ⟨d, j, h1, h2, h3⟩ := ih p h
      exact ⟨d, j, by omega, h2, h3⟩
    · exact ⟨D, p - st δ l D, by omega, by omega, by omega⟩
theorem bks_same (δ : α → Nat) (l : List α) (D : Nat) (h : ∀ x ∈ l, δ x < D) : Same (fun x => (δ x : Int)) l (bks δ l D) ∧ Pw (fun x => (δ x : Int)) (bks δ l D) := by
  constructor
  · intro k
    have key : ∀ D, (bks δ l D).filter (fun x => decide ((δ x : Int) = k)) = l.filter (fun x => decide ((δ x : Int) = k) && decide (δ x < D)) := by
      intro D
      induction D with
      | zero => simp [bks]
      | succ D ih =>
        rw [bks_succ, List.filter_append, ih]
        unfold bk
        rw [List.filter_filter]
        by_cases e : (D : Int) = k
        · have e1 : l.filter (fun x => decide ((δ x : Int) = k) && decide (δ x < D)) = [] := by
            rw [List.filter_eq_nil_iff]; intro x _; simp; omega
          rw [e1, List.nil_append]
          apply List.filter_congr
          intro x _
          rw [← Bool.decide_and, ← Bool.decide_and, decide_eq_decide]; omega
        · have e1 : l.filter (fun x => decide ((δ x : Int) = k) && decide (δ x = D)) = [] := by
            rw [List.filter_eq_nil_iff]; intro x _; simp; omega
          rw [e1, List.append_nil]
          apply List.filter_congr
          intro x _
          rw [← Bool.decide_and, ← Bool.decide_and, decide_eq_decide]; omega
    rw [key D]
    apply List.filter_congr
    intro x hx
    rw [decide_eq_true (h x hx), Bool.and_true]
  · clear h
    induction D with
    | zero => exact List.Pairwise.nil
    | succ D ih =>
      rw [bks_succ]
      unfold Pw
      rw [List.pairwise_append]
      refine ⟨ih, ?_, ?_⟩
      · refine pw_const (c := (D : Int)) fun x hx => ?_
        have := (List.mem_filter.1 hx).2
        simp only [decide_eq_true_eq] at this
        omega
      · intro a ha b hb
        obtain ⟨d, hd, ha'⟩ := List.mem_flatMap.1 ha
        have h1 := (List.mem_filter.1 ha').2
        have h2 := (List.mem_filter.1 hb).2
        have h3 := List.mem_range.1 hd
        simp only [decide_eq_true_eq] at h1 h2
        show (δ a : Int) ≤ (δ b : Int)
        omega
theorem bk_snoc (δ : α → Nat) (l : List α) (i : Nat) (h : i < l.length) (d : Nat) : bk δ (l.take (i + 1)) d = bk δ (l.take i) d ++ if δ l[i] = d then [l[i]] else [] := by
  unfold bk
  rw [List.take_succ_eq_append_getElem h, List.filter_append]
  congr 1
  by_cases e : δ l[i] = d
  · rw [if_pos e, List.filter_cons, if_pos (by simpa using e)]; rfl
  · rw [if_neg e, List.filter_cons, if_neg (by simpa using e)]; rfl
theorem bk_le (δ : α → Nat) (l : List α) (i d : Nat) : (bk δ (l.take i) d).length ≤ (bk δ l d).length := by
  unfold bk
  exact (List.Sublist.filter _ (List.take_sublist _ _)).length_le

end Go.Proofs.Ytdepncdknofocaa

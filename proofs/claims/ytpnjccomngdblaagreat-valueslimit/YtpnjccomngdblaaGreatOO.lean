/- Merged out of: OA OB OC OD OE OF OG OH OI OJ OK OL OM OQ. -/
import Derived.Test.YtpnjccomngdblaaGreatRows
import Derived.Test.YtpnjccomngdblaaGreatWA
import Derived.Test.YtpnjccomngdblaaGreatBb
import Derived.Laws.Bits64
import Derived.Laws.Bits64b
import Derived.Deep.LoopGhost
import Derived.Deep.CutRange
import Derived.Deep.CutBlock
import Derived.Test.YtpnjccomngdblaaGreatWB

section
/- Plain facts on putting places in order: 'Same': those of one key stand in one order in both; digit by digit; buckets. No program is named here. -/
namespace Go.Proofs.YtpnjccomngdblaaGreat

variable {α : Type} {κ δ : α → Int}

/-- Those of one key stand in one order in both. -/
def Same (κ : α → Int) (xs ys : List α) : Prop := ∀ k, xs.filter (fun x => decide (κ x = k)) = ys.filter (fun x => decide (κ x = k))
/-- Keys never fall. -/
def Pw (κ : α → Int) (l : List α) : Prop := l.Pairwise (fun a b => κ a ≤ κ b)
theorem Same.refl (κ : α → Int) (xs : List α) : Same κ xs xs := fun _ => rfl
theorem Same.trans {xs ys zs : List α} (h : Same κ xs ys) (k : Same κ ys zs) : Same κ xs zs := fun i => (h i).trans (k i)
theorem Same.symm {xs ys : List α} (h : Same κ xs ys) : Same κ ys xs := fun i => (h i).symm
theorem Same.app {xs ys zs us : List α} (h : Same κ xs ys) (k : Same κ zs us) : Same κ (xs ++ zs) (ys ++ us) := fun i => by rw [List.filter_append, List.filter_append, h i, k i]
theorem Same.swap {xs ys : List α} (h : ∀ x ∈ xs, ∀ y ∈ ys, κ x ≠ κ y) : Same κ (xs ++ ys) (ys ++ xs) := by
  intro k
  rw [List.filter_append, List.filter_append]
  by_cases hx : ∃ x ∈ xs, κ x = k
  · obtain ⟨x, hx1, hx2⟩ := hx
    have : ys.filter (fun x => decide (κ x = k)) = [] := by
      rw [List.filter_eq_nil_iff]
      intro y hy
      have := h x hx1 y hy
      simp; omega
    rw [this]; simp
  · have : xs.filter (fun x => decide (κ x = k)) = [] := by
      rw [List.filter_eq_nil_iff]
      intro y hy
      simp only [decide_eq_true_eq]
      exact fun e => hx ⟨y, hy, e⟩
    rw [this]; simp
theorem Same.mem {xs ys : List α} (h : Same κ xs ys) {x : α} (hx : x ∈ xs) : x ∈ ys := by
  have : x ∈ xs.filter (fun y => decide (κ y = κ x)) := by simp [hx]
  rw [h (κ x)] at this
  exact (List.mem_filter.1 this).1
theorem Same.nil {ys : List α} (h : Same κ [] ys) : ys = [] := by
  cases ys with
  | nil => rfl
  | cons y ys => have := h.symm.mem (x := y) (by simp); simp at this
theorem filter_cons_pos' {p : α → Bool} {a : α} {t : List α} (h : p a = true) : (a :: t).filter p = a :: t.filter p := by rw [List.filter_cons, if_pos h]
theorem Same.perm : ∀ {xs ys : List α}, Same κ xs ys → xs.Perm ys := by
  intro xs
  induction xs with
  | nil => intro ys h; rw [h.nil]
  | cons x xs ih =>
    intro ys h
    have hm : x ∈ ys := h.mem (by simp)
    have hf := h (κ x)
    rw [filter_cons_pos' (by simp)] at hf
    obtain ⟨l1, bs, e1, e2⟩ : ∃ l1 bs, ys = l1 ++ x :: bs ∧ ∀ a ∈ l1, κ a ≠ κ x := by
      clear ih h hm
      induction ys with
      | nil => simp at hf
      | cons y ys ih2 =>
        by_cases e : κ y = κ x
        · rw [filter_cons_pos' (by simpa using e)] at hf
          have := (List.cons.inj hf).1
          exact ⟨[], ys, by rw [this]; rfl, by simp⟩
        · rw [List.filter_cons, if_neg (by simpa using e)] at hf
          obtain ⟨l1, bs, e1, e2⟩ := ih2 hf
          exact ⟨y :: l1, bs, by rw [e1]; rfl, by intro a ha; rcases List.mem_cons.1 ha with h | h; · rw [h]; exact e
                                                  · exact e2 a h⟩
    subst e1
    have h2 : Same κ xs (l1 ++ bs) := by
      intro k
      have h3 := h k
      rw [List.filter_append] at h3 ⊢
      by_cases e : κ x = k
      · have e3 : l1.filter (fun x => decide (κ x = k)) = [] := by
          rw [List.filter_eq_nil_iff]
          intro a ha
          have := e2 a ha
          simp only [decide_eq_true_eq]; omega
        rw [e3, filter_cons_pos' (by simpa using e), filter_cons_pos' (by simpa using e)] at h3
        rw [e3]
        exact (List.cons.inj h3).2
      · rw [List.filter_cons, if_neg (by simpa using e), List.filter_cons, if_neg (by simpa using e)] at h3
        exact h3
    exact ((ih h2).cons x).trans (List.perm_middle.symm)
theorem Same.congr {κ' : α → Int} {xs ys : List α} (h : Same κ xs ys) (hk : ∀ x ∈ xs, κ x = κ' x) : Same κ' xs ys := by
  intro k
  have e1 : xs.filter (fun x => decide (κ' x = k)) = xs.filter (fun x => decide (κ x = k)) := List.filter_congr fun x hx => by rw [hk x hx]
  have e2 : ys.filter (fun x => decide (κ' x = k)) = ys.filter (fun x => decide (κ x = k)) := List.filter_congr fun x hx => by rw [hk x (h.symm.mem hx)]
  rw [e1, e2, h k]
theorem Pw.congr {κ' : α → Int} {ys : List α} (h : Pw κ ys) (hk : ∀ x ∈ ys, κ x = κ' x) : Pw κ' ys :=
  List.Pairwise.imp_of_mem (fun {a b} ha hb hab => by rw [← hk a ha, ← hk b hb]; exact hab) h

theorem same_cons_head {a b : α} {s t : List α} (h : Same κ (a :: s) (b :: t)) (h1 : ∀ x ∈ s, κ a ≤ κ x) (h2 : ∀ x ∈ t, κ b ≤ κ x) : a = b ∧ Same κ s t := by
  have ha : a ∈ b :: t := h.mem (by simp)
  have hb : b ∈ a :: s := h.symm.mem (by simp)
  have hk : κ a = κ b := by
    have e1 : κ b ≤ κ a := by
      rcases List.mem_cons.1 ha with e | e
      · rw [e]; exact Int.le_refl _
      · exact h2 a e
    have e2 : κ a ≤ κ b := by
      rcases List.mem_cons.1 hb with e | e
      · rw [e]; exact Int.le_refl _
      · exact h1 b e
    omega
  have hf := h (κ a)
  rw [List.filter_cons, if_pos (by simp), List.filter_cons, if_pos (by simp [hk])] at hf
  have hab : a = b := (List.cons.inj hf).1
  subst hab
  refine ⟨rfl, fun k => ?_⟩
  have := h k
  rw [List.filter_cons, List.filter_cons] at this
  by_cases e : κ a = k
  · rw [if_pos (by simpa using e), if_pos (by simpa using e)] at this
    exact (List.cons.inj this).2
  · rw [if_neg (by simpa using e), if_neg (by simpa using e)] at this
    exact this
/-- An order that keeps what stands ahead is one alone. -/
theorem same_uniq : ∀ {ys zs : List α}, Same κ ys zs → Pw κ ys → Pw κ zs → ys = zs := by
  intro ys
  induction ys with
  | nil => intro zs h _ _; exact (h.nil).symm
  | cons a s ih =>
    intro zs h h1 h2
    cases zs with
    | nil => have := h.symm.nil; cases this
    | cons b t =>
      unfold Pw at h1 h2
      rw [List.pairwise_cons] at h1 h2
      obtain ⟨e, hs⟩ := same_cons_head h h1.1 h2.1
      rw [e, ih hs h1.2 h2.2]

/-! ## Digit by digit -/

theorem pw_two : ∀ {l : List α}, Pw δ l → (∀ d, Pw κ (l.filter (fun x => decide (δ x = d)))) → l.Pairwise (fun a b => δ a < δ b ∨ (δ a = δ b ∧ κ a ≤ κ b)) := by
  intro l
  induction l with
  | nil => intro _ _; exact List.Pairwise.nil
  | cons a t ih =>
    intro h1 h2
    unfold Pw at h1 h2
    rw [List.pairwise_cons] at h1
    rw [List.pairwise_cons]
    refine ⟨fun b hb => ?_, ih h1.2 fun d => ?_⟩
    · have := h1.1 b hb
      by_cases e : δ a = δ b
      · refine .inr ⟨e, ?_⟩
        have h3 := h2 (δ a)
        rw [List.filter_cons, if_pos (by simp), List.pairwise_cons] at h3
        exact h3.1 b (List.mem_filter.2 ⟨hb, by simp [e]⟩)
      · exact .inl (by omega)
    · have h3 := h2 d
      rw [List.filter_cons] at h3
      split at h3
      · exact (List.pairwise_cons.1 h3).2
      · exact h3

theorem lsd_num {B d k x : Int} (h : 0 ≤ k ∧ k < B) : d * B + k = x ↔ d = x / B ∧ k = x % B := by
  have hB : 0 < B := by omega
  constructor
  · intro e
    subst e
    rw [Int.add_comm, Int.add_mul_ediv_right _ _ (by omega), Int.add_mul_emod_self_right, Int.ediv_eq_zero_of_lt h.1 h.2, Int.emod_eq_of_lt h.1 h.2]
    omega
  · rintro ⟨e1, e2⟩
    rw [e1, e2, Int.mul_comm]
    exact Int.mul_ediv_add_emod x B

/-- In order by a digit, and by what was in order before. -/
theorem lsd {B : Int} {xs ys zs : List α} (hB : ∀ x ∈ xs, 0 ≤ κ x ∧ κ x < B) (h1 : Same κ xs ys) (p1 : Pw κ ys) (h2 : Same δ ys zs) (p2 : Pw δ zs) :
    Same (fun x => δ x * B + κ x) xs zs ∧ Pw (fun x => δ x * B + κ x) zs := by
  have hz : ∀ x ∈ zs, 0 ≤ κ x ∧ κ x < B := fun x hx => hB x (h1.symm.mem (h2.symm.mem hx))
  have key : ∀ (l : List α), (∀ x ∈ l, 0 ≤ κ x ∧ κ x < B) → ∀ k, l.filter (fun x => decide (δ x * B + κ x = k)) = (l.filter (fun x => decide (δ x = k / B))).filter (fun x => decide (κ x = k % B)) := by
    intro l hl k
    rw [List.filter_filter]
    apply List.filter_congr
    intro x hx
    rw [← Bool.decide_and, decide_eq_decide, lsd_num (hl x hx)]
    exact And.comm
  constructor
  · intro k
    rw [key xs hB, key zs hz, ← h2 (k / B), List.filter_filter, List.filter_filter]
    have e : ∀ l : List α, l.filter (fun a => decide (κ a = k % B) && decide (δ a = k / B)) = (l.filter (fun x => decide (κ x = k % B))).filter (fun x => decide (δ x = k / B)) := fun l => by
      rw [List.filter_filter]
      apply List.filter_congr
      intro x _
      exact Bool.and_comm _ _
    rw [e, e, h1]
  · have := pw_two p2 (κ := κ) fun d => by
      rw [← h2 d]
      exact List.Pairwise.filter _ p1
    refine List.Pairwise.imp_of_mem (fun {a b} ha hb hab => ?_) this
    have ra := hz a ha
    have rb := hz b hb
    show δ a * B + κ a ≤ δ b * B + κ b
    rcases hab with h | ⟨h, h'⟩
    · have : (δ a + 1) * B ≤ δ b * B := Int.mul_le_mul_of_nonneg_right (by omega) (by omega)
      rw [Int.add_mul] at this
      omega
    · rw [h]; omega

/-- The low digits of a number; one digit. -/
def lowD (u : α → Nat) (j : Nat) (x : α) : Int := ((u x % 2 ^ j : Nat) : Int)
def digD (u : α → Nat) (j : Nat) (x : α) : Int := ((u x / 2 ^ j % 256 : Nat) : Int)
theorem lowD_succ (u : α → Nat) (j : Nat) (x : α) : digD u j x * ((2 ^ j : Nat) : Int) + lowD u j x = lowD u (j + 8) x := by
  unfold digD lowD
  rw [Nat.pow_add, show (2 : Nat) ^ 8 = 256 from rfl, Nat.mod_mul]
  rw [Int.natCast_add, Int.natCast_mul, Int.mul_comm, Int.add_comm]
theorem lowD_lt (u : α → Nat) (j : Nat) (x : α) : 0 ≤ lowD u j x ∧ lowD u j x < ((2 ^ j : Nat) : Int) := by
  unfold lowD
  have := Nat.mod_lt (u x) (Nat.pow_pos (n := j) (by decide : 0 < 2))
  omega
theorem low_start (u : α → Nat) (xs : List α) : Same (lowD u 0) xs xs ∧ Pw (lowD u 0) xs :=
  ⟨Same.refl _ _, List.Pairwise.imp_of_mem (fun {a b} _ _ _ => by simp [lowD, Nat.mod_one]) (List.pairwise_of_forall (R := fun _ _ => True) (fun _ _ => trivial) (l := xs))⟩
theorem low_step {u : α → Nat} {j : Nat} {xs ys zs : List α} (h1 : Same (lowD u j) xs ys ∧ Pw (lowD u j) ys) (h2 : Same (digD u j) ys zs ∧ Pw (digD u j) zs) : Same (lowD u (j + 8)) xs zs ∧ Pw (lowD u (j + 8)) zs := by
  have := lsd (κ := lowD u j) (δ := digD u j) (B := ((2 ^ j : Nat) : Int)) (fun x _ => lowD_lt u j x) h1.1 h1.2 h2.1 h2.2
  have e : (fun x => digD u j x * ((2 ^ j : Nat) : Int) + lowD u j x) = lowD u (j + 8) := funext fun x => lowD_succ u j x
  rwa [e] at this
theorem pw_const {xs : List α} {c : Int} (h : ∀ x ∈ xs, κ x = c) : Pw κ xs :=
  List.Pairwise.imp_of_mem (fun {a b} ha hb _ => by rw [h a ha, h b hb]; exact Int.le_refl _) (List.pairwise_of_forall (R := fun _ _ => True) (fun _ _ => trivial) (l := xs))
theorem low_skip {u : α → Nat} {j : Nat} {xs ys : List α} {c : Int} (h1 : Same (lowD u j) xs ys ∧ Pw (lowD u j) ys) (h2 : ∀ x ∈ xs, digD u j x = c) : Same (lowD u (j + 8)) xs ys ∧ Pw (lowD u (j + 8)) ys :=
  low_step h1 ⟨Same.refl _ _, pw_const fun x hx => h2 x (h1.1.symm.mem hx)⟩
/-- Where what is above is alike for all, the order is by the whole number. -/
theorem low_end {u : α → Nat} {j : Nat} {xs ys : List α} {c : Nat} (h1 : Same (lowD u j) xs ys ∧ Pw (lowD u j) ys) (h2 : ∀ x ∈ xs, u x / 2 ^ j = c) : Same (fun x => (u x : Int)) xs ys ∧ Pw (fun x => (u x : Int)) ys := by
  have hc : ∀ x ∈ xs, ((u x / 2 ^ j : Nat) : Int) = (c : Int) := fun x hx => by rw [h2 x hx]
  have := lsd (κ := lowD u j) (δ := fun x => ((u x / 2 ^ j : Nat) : Int)) (B := ((2 ^ j : Nat) : Int)) (fun x _ => lowD_lt u j x) h1.1 h1.2 (Same.refl _ ys) (pw_const fun x hx => hc x (h1.1.symm.mem hx))
  have e : (fun x => ((u x / 2 ^ j : Nat) : Int) * ((2 ^ j : Nat) : Int) + lowD u j x) = fun x => (u x : Int) := funext fun x => by
    unfold lowD
    rw [← Int.natCast_mul, ← Int.natCast_add, Nat.mul_comm, Nat.div_add_mod]
  rwa [e] at this
theorem Same.shift {c : Int} {xs ys : List α} (h : Same (fun x => κ x + c) xs ys ∧ Pw (fun x => κ x + c) ys) : Same κ xs ys ∧ Pw κ ys := by
  refine ⟨fun k => ?_, h.2.imp fun {a b} h => by have h' : κ a + c ≤ κ b + c := h; omega⟩
  have := h.1 (k + c)
  have e : ∀ l : List α, l.filter (fun x => decide (κ x + c = k + c)) = l.filter (fun x => decide (κ x = k)) := fun l => List.filter_congr fun x _ => by rw [decide_eq_decide]; omega
  rw [e, e] at this
  exact this

/-! ## Buckets -/

def bk (δ : α → Nat) (l : List α) (d : Nat) : List α := l.filter (fun x => decide (δ x = d))
def st (δ : α → Nat) (l : List α) (d : Nat) : Nat := (l.filter (fun x => decide (δ x < d))).length
def bks (δ : α → Nat) (l : List α) (D : Nat) : List α := (List.range D).flatMap (bk δ l)

theorem st_zero (δ : α → Nat) (l : List α) : st δ l 0 = 0 := by simp [st]
theorem st_succ (δ : α → Nat) (l : List α) (d : Nat) : st δ l (d + 1) = st δ l d + (bk δ l d).length := by
  unfold st bk
  induction l with
  | nil => rfl
  | cons x l ih =>
    rw [List.filter_cons, List.filter_cons, List.filter_cons]
    by_cases h1 : δ x < d
    · rw [if_pos (by simp; omega), if_pos (by simpa using h1), if_neg (by simp; omega), List.length_cons, List.length_cons, ih]; omega
    · by_cases h2 : δ x = d
      · rw [if_pos (by simp; omega), if_neg (by simpa using h1), if_pos (by simpa using h2), List.length_cons, List.length_cons, ih]; omega
      · rw [if_neg (by simp; omega), if_neg (by simpa using h1), if_neg (by simpa using h2), ih]
theorem st_mono (δ : α → Nat) (l : List α) {i k : Nat} (h : i ≤ k) : st δ l i ≤ st δ l k := by
  induction k with
  | zero => rw [show i = 0 by omega]; exact Nat.le_refl _
  | succ k ih =>
    by_cases e : i = k + 1
    · rw [e]; exact Nat.le_refl _
    · rw [st_succ]; exact Nat.le_trans (ih (by omega)) (Nat.le_add_right _ _)
theorem st_all (δ : α → Nat) (l : List α) (D : Nat) (h : ∀ x ∈ l, δ x < D) : st δ l D = l.length := by
  unfold st
  rw [List.filter_eq_self.2 (fun x hx => by simpa using h x hx)]
theorem st_le (δ : α → Nat) (l : List α) (D : Nat) : st δ l D ≤ l.length := List.length_filter_le _ _
theorem bks_succ (δ : α → Nat) (l : List α) (D : Nat) : bks δ l (D + 1) = bks δ l D ++ bk δ l D := by
  unfold bks
  rw [List.range_succ, List.flatMap_append]; simp
theorem bks_length (δ : α → Nat) (l : List α) (D : Nat) : (bks δ l D).length = st δ l D := by
  induction D with
  | zero => rw [st_zero]; rfl
  | succ D ih => rw [bks_succ, List.length_append, ih, st_succ]
theorem bks_get (δ : α → Nat) (l : List α) {d j : Nat} (hj : j < (bk δ l d).length) : ∀ D, d < D → (bks δ l D)[st δ l d + j]? = (bk δ l d)[j]? := by
  intro D
  induction D with
  | zero => intro h; omega
  | succ D ih =>
    intro hd
    rw [bks_succ]
    by_cases e : d = D
    · subst e
      rw [List.getElem?_append_right (by rw [bks_length]; omega), bks_length, Nat.add_sub_cancel_left]
    · rw [List.getElem?_append_left, ih (by omega)]
      rw [bks_length]
      have h1 := st_succ δ l d
      have h2 := st_mono δ l (show d + 1 ≤ D by omega)
      omega
theorem bks_at (δ : α → Nat) (l : List α) : ∀ D p, p < st δ l D → ∃ d j, d < D ∧ j < (bk δ l d).length ∧ p = st δ l d + j := by
  intro D
  induction D with
  | zero => intro p hp; rw [st_zero] at hp; omega
  | succ D ih =>
    intro p hp
    rw [st_succ] at hp
    by_cases h : p < st δ l D
    · obtain ⟨d, j, h1, h2, h3⟩ := ih p h
      exact ⟨d, j, by omega, h2, h3⟩
    · exact ⟨D, p - st δ l D, by omega, by omega, by omega⟩
theorem bks_same (δ : α → Nat) (l : List α) (D : Nat) (h : ∀ x ∈ l, δ x < D) : Same (fun x => (δ x : Int)) l (bks δ l D) ∧ Pw (fun x => (δ x : Int)) (bks δ l D) := by
  constructor
  · intro k
    have key : ∀ D, (bks δ l D).filter (fun x => decide ((δ x : Int) = k)) = l.filter (fun x => decide ((δ x : Int) = k) && decide (δ x < D)) := by
      intro D
      induction D with
      | zero => simp [bks]
      | succ D ih =>
        rw [bks_succ, List.filter_append, ih]
        unfold bk
        rw [List.filter_filter]
        by_cases e : (D : Int) = k
        · have e1 : l.filter (fun x => decide ((δ x : Int) = k) && decide (δ x < D)) = [] := by
            rw [List.filter_eq_nil_iff]; intro x _; simp; omega
          rw [e1, List.nil_append]
          apply List.filter_congr
          intro x _
          rw [← Bool.decide_and, ← Bool.decide_and, decide_eq_decide]; omega
        · have e1 : l.filter (fun x => decide ((δ x : Int) = k) && decide (δ x = D)) = [] := by
            rw [List.filter_eq_nil_iff]; intro x _; simp; omega
          rw [e1, List.append_nil]
          apply List.filter_congr
          intro x _
          rw [← Bool.decide_and, ← Bool.decide_and, decide_eq_decide]; omega
    rw [key D]
    apply List.filter_congr
    intro x hx
    rw [decide_eq_true (h x hx), Bool.and_true]
  · clear h
    induction D with
    | zero => exact List.Pairwise.nil
    | succ D ih =>
      rw [bks_succ]
      unfold Pw
      rw [List.pairwise_append]
      refine ⟨ih, ?_, ?_⟩
      · refine pw_const (c := (D : Int)) fun x hx => ?_
        have := (List.mem_filter.1 hx).2
        simp only [decide_eq_true_eq] at this
        omega
      · intro a ha b hb
        obtain ⟨d, hd, ha'⟩ := List.mem_flatMap.1 ha
        have h1 := (List.mem_filter.1 ha').2
        have h2 := (List.mem_filter.1 hb).2
        have h3 := List.mem_range.1 hd
        simp only [decide_eq_true_eq] at h1 h2
        show (δ a : Int) ≤ (δ b : Int)
        omega
theorem bk_snoc (δ : α → Nat) (l : List α) (i : Nat) (h : i < l.length) (d : Nat) : bk δ (l.take (i + 1)) d = bk δ (l.take i) d ++ if δ l[i] = d then [l[i]] else [] := by
  unfold bk
  rw [List.take_succ_eq_append_getElem h, List.filter_append]
  congr 1
  by_cases e : δ l[i] = d
  · rw [if_pos e, List.filter_cons, if_pos (by simpa using e)]; rfl
  · rw [if_neg e, List.filter_cons, if_neg (by simpa using e)]; rfl
theorem bk_le (δ : α → Nat) (l : List α) (i d : Nat) : (bk δ (l.take i) d).length ≤ (bk δ l d).length := by
  unfold bk
  exact (List.Sublist.filter _ (List.take_sublist _ _)).length_le

end Go.Proofs.YtpnjccomngdblaaGreat
end

section
/- Rows of numbers of the call's own, told by a function of their places; the contracts of places and bits. -/
set_option maxRecDepth 100000
namespace Go.Proofs.YtpnjccomngdblaaGreat
open Go.RowKit
open M

theorem cell_set (u : World) (g o o' : Nat) (v v0 : Value) (h : u.cell? ⟨g, o', none⟩ = some v0) : (u.setCell ⟨g, o, none⟩ v).cell? ⟨g, o', none⟩ = some (if o' = o then v else v0) := by
  by_cases e : o' = o
  · subst e
    rw [if_pos rfl]
    exact World.cell?_setCell_same _ _ _ h
  · rw [if_neg e, World.cell?_setCell_other _ _ _ _ (fun h => e (congrArg Addr.off h).symm)]; exact h

theorem ne_addr {b b' o o' : Nat} (h : b ≠ b') : (⟨b, o, none⟩ : Addr) ≠ ⟨b', o', none⟩ := fun e => h (congrArg Addr.block e)

/-- A row of numbers of the call's own. -/
structure DI (w : World) (D n : Nat) (d : Nat → Int) (u : World) : Prop where
  cell : ∀ i, i < n → u.cell? ⟨D, i, none⟩ = some (.int .i64 (d i))
  frz : ∀ i, i < n → u.frozen? ⟨D, i, none⟩ = false
  lo : w.heap.size ≤ D
  hi : D < u.heap.size
  bel : Below w.heap.size w u

variable {w u u' : World} {D n : Nat} {d : Nat → Int}

theorem DI.kept (h : DI w D n d u) (hb : Below u.heap.size u u') : DI w D n d u' :=
  ⟨fun i hi => by rw [hb.cell (p := ⟨D, i, none⟩) h.hi]; exact h.cell i hi, fun i hi => by rw [hb.frozen (p := ⟨D, i, none⟩) h.hi]; exact h.frz i hi, h.lo, Nat.lt_of_lt_of_le h.hi hb.size, h.bel.trans (hb.mono h.bel.size)⟩
theorem below_drN (w : World) (q : Nat) : Below w.heap.size w (w.drewN q) := ⟨rfl, rfl, rfl, Nat.le_refl _, fun _ _ => rfl⟩
theorem DI.drewN (h : DI w D n d u) (q : Nat) : DI w D n d (u.drewN q) := h.kept (below_drN u q)
theorem DI.set (h : DI w D n d u) {i : Nat} (_hi : i < n) (x : Int) : DI w D n (fun k => if k = i then x else d k) (u.setCell ⟨D, i, none⟩ (.int .i64 x)) := by
  refine ⟨fun k hk => ?_, fun k hk => by simpa using h.frz k hk, h.lo, by simpa using h.hi, h.bel.setCell h.lo _⟩
  rw [cell_set _ _ _ _ _ _ (h.cell k hk)]
  by_cases e : k = i
  · simp [e]
  · simp [e]
theorem DI.other (h : DI w D n d u) {p : Addr} (hp : w.heap.size ≤ p.block) (hne : p.block ≠ D) (v : Value) : DI w D n d (u.setCell p v) :=
  ⟨fun i hi => by rw [World.cell?_setCell_other _ _ _ _ (fun e => hne (congrArg Addr.block e))]; exact h.cell i hi, fun i hi => by simpa using h.frz i hi, h.lo, by simpa using h.hi, h.bel.setCell hp _⟩
theorem DI.congr {d' : Nat → Int} (h : DI w D n d u) (hd : ∀ i, i < n → d i = d' i) : DI w D n d' u := { h with cell := fun i hi => by rw [← hd i hi]; exact h.cell i hi }
theorem DI.nums (h : DI w D n d u) {l : List Int} (hl : l.length = n) (hd : ∀ i, i < n → d i = l.getD i 0) : NumsAt .i64 u (some ⟨D, 0, none⟩) l :=
  .inr ⟨D, 0, rfl, h.hi, fun j hj => by rw [Nat.zero_add, ← hd j (by omega)]; exact h.cell j (by omega)⟩

theorem madeInt (n : Nat) : ∀ i, i < n → (madeCells #[Value.int .i64 0] n).toList[i]? = some (.int .i64 0) := by
  intro i hi
  simp [madeCells, hi, Nat.mod_one]

theorem DI.made {w1 : World} (hb : Below w.heap.size w w1) (hown : u.ownsRow w1.heap.size 3 1 (.slice (some ⟨w1.heap.size, 0, none⟩) n n) n (madeCells #[Value.int .i64 0] n).toList) (hgrow : w1.grownBy u none) : DI w w1.heap.size n (fun _ => 0) u := by
  have hg := hown.lt w1.heap.size rfl
  refine ⟨fun i hi => ?_, fun i _ => hown.frozenAt i, hb.size, hg.2, hb.trans ((below_grown hgrow).mono hb.size)⟩
  rw [hown.cellAt i (by omega)]
  exact madeInt n i hi

/-- Places are 0, 1 and so on. -/
theorem places_any (n : Nat) (w : World) (hn : n ≤ 1000000) : Calls Tryz.prog 124 #[.int .i64 (n : Int)] w fun e u => ∃ D, e = .returned (.slice (some ⟨D, 0, none⟩) n n) ∧ DI w D n (fun i => (i : Int)) u := by
  obtain ⟨i0, hi, hz0, hz1, hz2⟩ := info_parts info3
  go_enter Tryz.func124, Tryz.ntmps124
  go_wp2_with (first | (at_make; refine wpList_make_full _ rfl _ _ 38 rfl w.heap.size 3 i0 (.int .i64 0) 1 Tryz.underlying38 hi hz0 hz1 _ _ _ _ n rfl rfl rfl rfl ?b2 ?b3 (Nat.le_refl _) ?_))
  case b2 => rw [hz2]; omega
  case b3 => unfold maxLen; omega
  intro w1 hown hgrow
  have hD := DI.made (Below.refl _ _) hown hgrow
  have HD := Lib.hid hD
  clear hown hgrow hD hi hz0 hz1 hz2
  obtain ⟨D, hDe⟩ : ∃ D, D = w.heap.size := ⟨_, rfl⟩
  rw [← hDe] at HD
  rw [← hDe]
  clear hDe
  go_wp2
  go_loopw [4, 9] (fun _ v9 wr => ∃ i : Nat, i ≤ n ∧ v9 = .int .i64 (i : Int) ∧ DI w D n (fun k => if k < i then (k : Int) else 0) wr) (fun _ v9 _ => n - (intOf v9).toNat)
  case atStart => exact ⟨0, Nat.zero_le _, rfl, HD.out.congr fun i _ => by simp⟩
  case round =>
    obtain ⟨i, hin, rfl, hDr⟩ := hrel
    by_cases hlt : i < n
    · have c1 := hDr.cell i hlt
      have z1 := hDr.frz i hlt
      have hset := hDr.set hlt (i : Int)
      have HS := Lib.hid hset
      clear hset hDr
      have q1 : (i : Int) < (n : Int) := by omega
      have q2 : (0 : Int) ≤ (i : Int) := by omega
      go_wp2
      go_roundw
      case rel =>
        refine ⟨i + 1, by omega, by go_num, HS.out.congr fun k _ => ?_⟩
        by_cases e : k = i
        · rw [if_pos e, if_pos (by omega), e]
        · rw [if_neg e]
          by_cases e2 : k < i
          · rw [if_pos e2, if_pos (by omega)]
          · rw [if_neg e2, if_neg (by omega)]
      case measure => simp [intOf]; omega
    · obtain rfl : i = n := by omega
      have HF := Lib.hid hDr
      clear hDr
      go_wp2
      go_ret
      exact ⟨D, rfl, HF.out.congr fun k hk => by rw [if_pos hk]⟩

end Go.Proofs.YtpnjccomngdblaaGreat
end

section
/- The contract of bucketed. -/
set_option maxRecDepth 100000
namespace Go.Proofs.YtpnjccomngdblaaGreat
open Go.RowKit
open M

/-- What is asked of the closure: it tells a digit of each place, and only reads. -/
def DigC (w : World) (cb cs : Value) (ins : List Int) (δ : Int → Nat) : Prop :=
  ∀ u, Below w.heap.size w u → ∀ x ∈ ins, Calls Tryz.prog 150 #[.int .i64 x, cb, cs] u fun e u' => e = .returned (.int .i64 (δ x : Nat)) ∧ ∃ n, u' = u.drewN n

def BktEnd (w : World) (ins : List Int) (δ : Int → Nat) (e : Ending) (u : World) : Prop :=
  ∃ D, e = .returned (.slice (some ⟨D, 0, none⟩) ins.length ins.length) ∧ NumsAt .i64 u (some ⟨D, 0, none⟩) (bks δ ins 256) ∧ Below w.heap.size w u

def Z256 : Array Value := Array.replicate 256 (.int .i64 0)
theorem zero159 (w : World) : (zeroValue 159).run Tryz.prog w = .ok (.agg Z256) w := by kernel_rfl
theorem Z256_at (i : Nat) (h : i < 256) : Z256[i]? = some (.int .i64 0) := by simp [Z256, h]

theorem bk_get (δ : Int → Nat) (l : List Int) (i : Nat) (h : i < l.length) (d : Nat) : bk δ (l.take (i + 1)) d = bk δ (l.take i) d ++ if δ (l.getD i 0) = d then [l.getD i 0] else [] := by
  have e : l.getD i 0 = l[i] := by simp [List.getD_eq_getElem?_getD, h]
  rw [bk_snoc δ l i h d, e]

/-- What bucketed holds while it lays places: the counts, and the row that it lays. -/
structure BW (w : World) (N D n : Nat) (c : Nat → Int) (ins : List Int) (δ : Int → Nat) (i : Nat) (u : World) : Prop where
  cnt : DI w N 256 c u
  cell : ∀ d j, d < 256 → j < (bk δ (ins.take i) d).length → u.cell? ⟨D, st δ ins d + j, none⟩ = some (.int .i64 ((bk δ (ins.take i) d).getD j 0))
  had : ∀ k, k < n → ∃ v, u.cell? ⟨D, k, none⟩ = some v
  frz : ∀ k, k < n → u.frozen? ⟨D, k, none⟩ = false
  lo : w.heap.size ≤ D
  hi : D < u.heap.size
  ne : D ≠ N

theorem BW.kept {w u u' : World} {N D n : Nat} {c : Nat → Int} {ins : List Int} {δ : Int → Nat} {i : Nat} (h : BW w N D n c ins δ i u) (hb : Below u.heap.size u u') : BW w N D n c ins δ i u' :=
  ⟨h.cnt.kept hb, fun d j hd hj => by rw [hb.cell (p := ⟨D, st δ ins d + j, none⟩) h.hi]; exact h.cell d j hd hj, fun k hk => by rw [hb.cell (p := ⟨D, k, none⟩) h.hi]; exact h.had k hk, fun k hk => by rw [hb.frozen (p := ⟨D, k, none⟩) h.hi]; exact h.frz k hk, h.lo, Nat.lt_of_lt_of_le h.hi hb.size, h.ne⟩

theorem st_bk_lt (δ : Int → Nat) (l : List Int) (i : Nat) (h : i < l.length) : st δ l (δ (l.getD i 0)) + (bk δ (l.take i) (δ (l.getD i 0))).length < st δ l (δ (l.getD i 0) + 1) := by
  have h1 := st_succ δ l (δ (l.getD i 0))
  have h2 := bk_get δ l i h (δ (l.getD i 0))
  rw [if_pos rfl] at h2
  have h3 := bk_le δ l (i + 1) (δ (l.getD i 0))
  rw [h2, List.length_append, List.length_singleton] at h3
  omega

/-- One place more. -/
theorem BW.lay {w u : World} {N D n : Nat} {c : Nat → Int} {ins : List Int} {δ : Int → Nat} {i : Nat} (h : BW w N D n c ins δ i u) (hi : i < ins.length) (hd : δ (ins.getD i 0) < 256)
    (hn : ins.length = n) (x : Int) :
    BW w N D n (fun k => if k = δ (ins.getD i 0) then x else c k) ins δ (i + 1) ((u.setCell ⟨D, st δ ins (δ (ins.getD i 0)) + (bk δ (ins.take i) (δ (ins.getD i 0))).length, none⟩ (.int .i64 (ins.getD i 0))).setCell ⟨N, δ (ins.getD i 0), none⟩ (.int .i64 x)) := by
  obtain ⟨y, hy⟩ : ∃ y, y = ins.getD i 0 := ⟨_, rfl⟩
  have hlt := st_bk_lt δ ins i hi
  have hle := st_le δ ins (δ (ins.getD i 0) + 1)
  have hbk := bk_get δ ins i hi
  rw [← hy] at hlt hle hbk hd ⊢
  have hNl := h.cnt.lo
  refine ⟨(h.cnt.other (p := ⟨D, _, none⟩) h.lo h.ne _).set hd x, fun d j hdl hj => ?_, fun k hk => ?_, fun k hk => by simpa using h.frz k hk, h.lo, by simpa using h.hi, h.ne⟩
  · rw [World.cell?_setCell_other _ _ _ _ (ne_addr h.ne.symm)]
    rw [hbk d] at hj
    rw [hbk d]
    by_cases e : δ y = d
    · subst e
      rw [if_pos rfl] at hj ⊢
      rw [List.length_append, List.length_singleton] at hj
      by_cases ej : j = (bk δ (ins.take i) (δ y)).length
      · subst ej
        obtain ⟨v, hv⟩ := h.had (st δ ins (δ y) + (bk δ (ins.take i) (δ y)).length) (by omega)
        rw [cell_set _ _ _ _ _ _ hv, if_pos rfl]
        simp [List.getD_eq_getElem?_getD]
      · have hj2 : j < (bk δ (ins.take i) (δ y)).length := by omega
        rw [cell_set _ _ _ _ _ _ (h.cell (δ y) j hdl hj2), if_neg (by omega)]
        simp [List.getD_eq_getElem?_getD, List.getElem?_append_left hj2]
    · rw [if_neg e, List.append_nil] at hj ⊢
      have hne : st δ ins d + j ≠ st δ ins (δ y) + (bk δ (ins.take i) (δ y)).length := by
        have l1 := bk_le δ ins i d
        have l2 := st_succ δ ins d
        rcases Nat.lt_or_gt_of_ne e with hlt2 | hlt2
        · have := st_mono δ ins (show δ y + 1 ≤ d by omega); omega
        · have := st_mono δ ins (show d + 1 ≤ δ y by omega); omega
      rw [cell_set _ _ _ _ _ _ (h.cell d j hdl hj), if_neg hne]
  · obtain ⟨v, hv⟩ := h.had k hk
    rw [World.cell?_setCell_other _ _ _ _ (ne_addr h.ne.symm), cell_set _ _ _ _ _ _ hv]
    exact ⟨_, rfl⟩

set_option maxHeartbeats 4000000 in
theorem bucketed_any (A : Option Addr) (n cA : Nat) (ins : List Int) (cb cs : Value) (δ : Int → Nat) (w : World) (hx : NumsAt .i64 w A ins) (hl : ins.length = n) (hn : n ≤ 1000000) (hC : DigC w cb cs ins δ) (hδ : ∀ x ∈ ins, δ x < 256) :
    Calls Tryz.prog 149 #[.slice A n cA, .func (.func 150) #[] #[cb, cs]] w (BktEnd w ins δ) := by
  have HX := Lib.hid (And.intro hx (And.intro hl (And.intro hC hδ)))
  clear hx hl hC hδ
  have hz := zero159
  have hN : DI w w.heap.size 256 (fun d => ((bk δ (ins.take 0) d).length : Nat)) (w.alloc (.cells Z256 159)) :=
    ⟨fun i hi => by rw [cell_new _ _ _ _ _ rfl, Z256_at i hi]; simp [bk], fun i _ => frozen_new _ _ _ _ _ rfl, Nat.le_refl _, by simp, (Below.refl _ _).alloc (Nat.le_refl _) _⟩
  have HN := Lib.hid hN
  clear hN
  go_enter Tryz.func149, Tryz.ntmps149
  go_wp2
  obtain ⟨N, hNe⟩ : ∃ N, N = w.heap.size := ⟨_, rfl⟩
  obtain ⟨w0, hw0⟩ : ∃ w0, w0 = w.alloc (.cells Z256 159) := ⟨_, rfl⟩
  rw [← hw0, ← hNe] at HN
  try rw [← hw0]
  rw [← hNe]
  clear hw0
  have HNE := Lib.hid hNe
  clear hNe
  go_loopw [7, 16] (fun _ v16 wr => ∃ i : Nat, i ≤ n ∧ v16 = .int .i64 (i : Int) ∧ DI w N 256 (fun d => ((bk δ (ins.take i) d).length : Nat)) wr) (fun _ v16 _ => n - (intOf v16).toNat)
  case atStart => exact ⟨0, Nat.zero_le _, rfl, HN.out⟩
  case round =>
    obtain ⟨i, hin, rfl, hDr⟩ := hrel
    by_cases hlt : i < n
    · obtain ⟨bb, off, hAe, hbl, hcb⟩ := num_at (HX.out.1.kept hDr.bel) (i := i) (by rw [HX.out.2.1]; exact hlt)
      have hxm : ins.getD i 0 ∈ ins := by simp [List.getD_eq_getElem?_getD, HX.out.2.1, hlt]
      have hd := HX.out.2.2.2 _ hxm
      have hcl := HX.out.2.2.1 wr hDr.bel _ hxm
      have hsn := fun d => bk_get δ ins i (by rw [HX.out.2.1]; exact hlt) d
      have hle : (bk δ (ins.take i) (δ (ins.getD i 0))).length ≤ i := Nat.le_trans (List.length_filter_le _ _) (List.length_take_le _ _)
      obtain ⟨x, hx⟩ : ∃ x, x = ins.getD i 0 := ⟨_, rfl⟩
      rw [← hx] at hcb hd hcl hsn hle
      clear hx hxm
      have c1 := hDr.cell (δ x) hd
      have z1 := hDr.frz (δ x) hd
      have hset := fun q => (hDr.drewN q).set hd (((bk δ (ins.take i) (δ x)).length : Nat) + 1 : Int)
      have HS := Lib.hid (And.intro hset hsn)
      have HCL := Lib.hid hcl
      subst hAe
      clear hset hDr hcl hsn
      obtain ⟨dx, hdx⟩ : ∃ dx, dx = δ x := ⟨_, rfl⟩
      rw [← hdx] at hd hle c1 z1 HS HCL
      clear hdx
      obtain ⟨ct, hct⟩ : ∃ ct, ct = (bk δ (ins.take i) dx).length := ⟨_, rfl⟩
      rw [← hct] at c1 HS hle
      have HCT := Lib.hid hct
      clear hct
      have q1 : (i : Int) < (n : Int) := by omega
      have q2 : (0 : Int) ≤ (i : Int) := by omega
      have q3 : (dx : Int) < 256 := by omega
      have q4 : (0 : Int) ≤ (dx : Int) := by omega
      go_wp2_with fail
      (with_reducible refine HCL.out.mono ?_)
      rintro e u1 ⟨rfl, q, rfl⟩
      have c1' : (wr.drewN q).cell? ⟨N, dx, none⟩ = some (.int .i64 (ct : Nat)) := by simpa using c1
      have z1' : (wr.drewN q).frozen? ⟨N, dx, none⟩ = false := by simpa using z1
      clear c1 z1 HCL
      go_wp2
      go_roundw
      case rel =>
        refine ⟨i + 1, by omega, by go_num, (HS.out.1 q).congr fun d _ => ?_⟩
        rw [HS.out.2 d, List.length_append]
        by_cases e : d = dx
        · rw [if_pos e, if_pos e.symm, HCT.out, e]; rfl
        · rw [if_neg e, if_neg (fun h => e h.symm)]; rfl
      case measure => simp [intOf]; omega
    · obtain rfl : i = n := by omega
      have hD2 : DI w N 256 (fun d => if d < 0 then ((st δ ins d : Nat) : Int) else ((bk δ ins d).length : Nat)) wr := hDr.congr fun d _ => by
        rw [if_neg (by omega), show ins.take i = ins from List.take_of_length_le (by have := HX.out.2.1; omega)]
      have HD2 := Lib.hid hD2
      clear hDr hD2
      go_wp2
      go_loopw [8, 9, 28] (fun v8 _ v28 wr => ∃ d : Nat, d ≤ 256 ∧ v28 = .int .i64 (d : Int) ∧ v8 = .int .i64 (st δ ins d : Nat) ∧ DI w N 256 (fun k => if k < d then ((st δ ins k : Nat) : Int) else ((bk δ ins k).length : Nat)) wr) (fun _ _ v28 _ => 256 - (intOf v28).toNat)
      case atStart => exact ⟨0, by omega, rfl, by rw [st_zero]; rfl, HD2.out⟩
      case round =>
        obtain ⟨d, hd, rfl, rfl, hDr⟩ := hrel
        by_cases hlt : d < 256
        · have c1 := hDr.cell d hlt
          have z1 := hDr.frz d hlt
          simp only [Nat.lt_irrefl, if_false] at c1
          have hsu := st_succ δ ins d
          have hle := st_le δ ins (d + 1)
          rw [HX.out.2.1] at hle
          have hset := hDr.set hlt ((st δ ins d : Nat) : Int)
          have HS := Lib.hid (And.intro hset hsu)
          clear hset hDr
          obtain ⟨s0, hs0⟩ : ∃ s0, s0 = st δ ins d := ⟨_, rfl⟩
          obtain ⟨b0, hb0⟩ : ∃ b0, b0 = (bk δ ins d).length := ⟨_, rfl⟩
          rw [hsu, ← hs0, ← hb0] at hle
          rw [← hb0] at c1 HS
          rw [← hs0] at HS ⊢
          have HS0 := Lib.hid (And.intro hs0 hb0)
          clear hs0 hb0 hsu
          have q1 : (d : Int) < 256 := by omega
          have q2 : (0 : Int) ≤ (d : Int) := by omega
          go_wp2
          go_roundw
          case rel =>
            refine ⟨d + 1, by omega, by go_num, by rw [HS.out.2]; go_num, HS.out.1.congr fun k _ => ?_⟩
            by_cases e : k = d
            · rw [if_pos e, if_pos (by omega), HS0.out.1, e]
            · rw [if_neg e]
              by_cases e2 : k < d
              · rw [if_pos e2, if_pos (by omega)]
              · rw [if_neg e2, if_neg (by omega)]
          case measure => simp [intOf]; omega
        · obtain rfl : d = 256 := by omega
          have q1 : ¬ ((256 : Nat) : Int) < 256 := by omega
          have HD3 := Lib.hid hDr
          clear hDr HD2
          obtain ⟨i0, hi, hz0, hz1, hz2⟩ := info_parts info3
          go_wp2_with (first | (at_make; refine wpList_make_full _ rfl _ _ 38 rfl wr.heap.size 3 i0 (.int .i64 0) 1 Tryz.underlying38 hi hz0 hz1 _ _ _ _ i rfl rfl rfl rfl ?b2 ?b3 (Nat.le_refl _) ?_))
          case b2 => first | omega | (rw [hz2]; omega)
          case b3 => unfold maxLen; omega
          intro w3 hown hgrow
          have hb3 : Below wr.heap.size wr w3 := below_grown hgrow
          have hBW : BW w N wr.heap.size i (fun d => ((st δ ins d + (bk δ (ins.take 0) d).length : Nat) : Int)) ins δ 0 w3 := by
            have hg := hown.lt wr.heap.size rfl
            refine ⟨(HD3.out.kept hb3).congr fun d hd => by rw [if_pos hd]; simp [bk], fun d j _ hj => by simp [bk] at hj, fun k hk => ?_, fun k _ => hown.frozenAt k, HD3.out.bel.size, hg.2, by have := HD3.out.hi; omega⟩
            rw [hown.cellAt k (by omega)]
            exact ⟨_, madeInt i k hk⟩
          have HBW := Lib.hid hBW
          clear hown hgrow hb3 hBW hi hz0 hz1 hz2 HD3
          generalize wr.heap.size = D at *
          go_wp2
          go_loopw [12, 13, 45] (fun _ _ v45 wr => ∃ k : Nat, k ≤ i ∧ v45 = .int .i64 (k : Int) ∧ BW w N D i (fun d => ((st δ ins d + (bk δ (ins.take k) d).length : Nat) : Int)) ins δ k wr) (fun _ _ v45 _ => i - (intOf v45).toNat)
          case atStart => exact ⟨0, Nat.zero_le _, rfl, HBW.out⟩
          case round =>
            obtain ⟨k, hk, rfl, hB⟩ := hrel
            clear HBW
            by_cases hlt : k < i
            · obtain ⟨bb, off, hAe, hbl, hcb⟩ := num_at (HX.out.1.kept hB.cnt.bel) (i := k) (by rw [HX.out.2.1]; exact hlt)
              have hkl : k < ins.length := by rw [HX.out.2.1]; exact hlt
              have hxm : ins.getD k 0 ∈ ins := by simp [List.getD_eq_getElem?_getD, hkl]
              have hd := HX.out.2.2.2 _ hxm
              have hcl := HX.out.2.2.1 wr hB.cnt.bel _ hxm
              have hsn := fun d => bk_get δ ins k hkl d
              have hlt1 := st_bk_lt δ ins k hkl
              have hle1 := st_le δ ins (δ (ins.getD k 0) + 1)
              have hlay := fun q x => (hB.kept (below_drN wr q)).lay hkl hd HX.out.2.1 x
              rw [HX.out.2.1] at hle1
              have c1 := hB.cnt.cell _ hd
              have z1 := hB.cnt.frz _ hd
              obtain ⟨v2, c2⟩ := hB.had (st δ ins (δ (ins.getD k 0)) + (bk δ (ins.take k) (δ (ins.getD k 0))).length) (by omega)
              have z2 := hB.frz (st δ ins (δ (ins.getD k 0)) + (bk δ (ins.take k) (δ (ins.getD k 0))).length) (by omega)
              have hne := hB.ne
              obtain ⟨x, hx⟩ : ∃ x, x = ins.getD k 0 := ⟨_, rfl⟩
              rw [← hx] at hcb hd hcl hsn hlt1 hle1 hlay c1 z1 c2 z2
              obtain ⟨dx, hdx⟩ : ∃ dx, dx = δ x := ⟨_, rfl⟩
              rw [← hdx] at hd hcl hlt1 hle1 hlay c1 z1 c2 z2
              obtain ⟨ps, hps⟩ : ∃ ps, ps = st δ ins dx + (bk δ (ins.take k) dx).length := ⟨_, rfl⟩
              rw [← hps] at hlt1 hlay c1 c2 z2
              have hpsl : ps < i := by omega
              have HL := Lib.hid (And.intro hlay (And.intro hsn (And.intro hdx hps)))
              have HCL := Lib.hid hcl
              subst hAe
              clear hlay hsn hdx hps hcl hB hx hxm hlt1 hle1 hkl
              have q1 : (k : Int) < (i : Int) := by omega
              have q2 : (0 : Int) ≤ (k : Int) := by omega
              have q3 : (dx : Int) < 256 := by omega
              have q4 : (0 : Int) ≤ (dx : Int) := by omega
              have q5 : (ps : Int) < (i : Int) := by omega
              have q6 : (0 : Int) ≤ (ps : Int) := by omega
              go_wp2_with fail
              (with_reducible refine HCL.out.mono ?_)
              rintro e u1 ⟨rfl, q, rfl⟩
              have c1' : (wr.drewN q).cell? ⟨N, dx, none⟩ = some (.int .i64 (ps : Nat)) := by simpa using c1
              have z1' : (wr.drewN q).frozen? ⟨N, dx, none⟩ = false := by simpa using z1
              have c2' : (wr.drewN q).cell? ⟨D, ps, none⟩ = some v2 := by simpa using c2
              have z2' : (wr.drewN q).frozen? ⟨D, ps, none⟩ = false := by simpa using z2
              have c3' : ∀ v, ((wr.drewN q).setCell ⟨D, ps, none⟩ v).cell? ⟨N, dx, none⟩ = some (.int .i64 (ps : Nat)) := fun v => by rw [World.cell?_setCell_other _ _ _ _ (ne_addr hne)]; exact c1'
              have HL2 := Lib.hid (And.intro (HL.out.1 q ((ps : Int) + 1)) HL.out.2)
              clear c1 z1 c2 z2 HCL HL
              generalize wr.drewN q = wq at *
              go_wp2
              go_roundw
              case rel =>
                obtain ⟨h1, h2, h3, h4⟩ := HL2.out
                refine ⟨k + 1, by omega, by go_num, { h1 with cnt := h1.cnt.congr fun d _ => ?_ }⟩
                rw [h2 d, List.length_append]
                by_cases e : d = dx
                · rw [if_pos e, if_pos (by rw [h3] at e; exact e.symm), h4, e]; rfl
                · rw [if_neg e, if_neg (by rw [h3] at e; exact fun h => e h.symm)]; rfl
              case measure => simp [intOf]; omega
            · obtain rfl : k = i := by omega
              have HF := Lib.hid hB
              clear hB
              go_wp2
              go_ret
              have htk : ins.take k = ins := List.take_of_length_le (by have := HX.out.2.1; omega)
              refine ⟨D, by rw [HX.out.2.1]; rfl, .inr ⟨D, 0, rfl, HF.out.hi, fun j hj => ?_⟩, HF.out.cnt.bel⟩
              rw [bks_length] at hj
              obtain ⟨d, t, h1, h2, rfl⟩ := bks_at δ ins 256 j hj
              have h3 := HF.out.cell d t h1 (by rw [htk]; exact h2)
              rw [htk] at h3
              rw [Nat.zero_add, h3]
              simp only [List.getD_eq_getElem?_getD, bks_get δ ins h2 256 h1]

end Go.Proofs.YtpnjccomngdblaaGreat
end

section
/- Numbers by their digits: the contracts of bits and of the closure that sorted hands on. -/
set_option maxRecDepth 100000
namespace Go.Proofs.YtpnjccomngdblaaGreat
open Go.RowKit
open M

/-- A number's bits; turned so that numbers below 0 are less. -/
def vN (x : Int) : Nat := (x % 18446744073709551616).toNat
def uN (x : Int) : Nat := vN x ^^^ 9223372036854775808

theorem vN_lt (x : Int) : vN x < 18446744073709551616 := by unfold vN; omega
theorem uN_lt (x : Int) : uN x < 18446744073709551616 := by
  have := vN_lt x
  exact Nat.xor_lt_two_pow (n := 64) (by omega) (by omega)
theorem top_xor (q r : Nat) (hr : r < 2 ^ 63) : (2 ^ 63 * q + r) ^^^ 2 ^ 63 = 2 ^ 63 * (q ^^^ 1) + r := by
  apply Nat.eq_of_testBit_eq
  intro i
  have e := fun (y x : Nat) (h : x < 2 ^ 63) => Nat.testBit_two_pow_mul_add y h i
  rw [Nat.testBit_xor, show (2 : Nat) ^ 63 = 2 ^ 63 * 1 + 0 by omega, e 1 0 (by decide), show 2 ^ 63 * 1 + 0 = 2 ^ 63 by decide, e q r hr, e (q ^^^ 1) r hr]
  split <;> simp [Nat.testBit_xor]
theorem uN_eq (x : Int) (h1 : -9223372036854775808 ≤ x) (h2 : x ≤ 9223372036854775807) : (uN x : Int) = x + 9223372036854775808 := by
  unfold uN
  by_cases hx : 0 ≤ x
  · have e : vN x = 2 ^ 63 * 0 + x.toNat := by unfold vN; omega
    rw [e, show (9223372036854775808 : Nat) = 2 ^ 63 by decide, top_xor 0 x.toNat (by omega), show (0 : Nat) ^^^ 1 = 1 by decide]
    omega
  · have e : vN x = 2 ^ 63 * 1 + (x + 9223372036854775808).toNat := by unfold vN; omega
    rw [e, show (9223372036854775808 : Nat) = 2 ^ 63 by decide, top_xor 1 _ (by omega), show (1 : Nat) ^^^ 1 = 0 by decide]
    omega
theorem xor_top (x : Int) : bits .xor .u64 (IntKind.u64.wrap x) 9223372036854775808 = (uN x : Int) := by
  have e : IntKind.u64.wrap x = (vN x : Int) := by rw [IntKind.wrap_u64]; unfold vN; omega
  rw [e]
  exact bits_xor_u64_nat _ _ (vN_lt x) (by decide)
theorem xor_two (x y : Int) : IntKind.u64.wrap (bits .xor .i64 x y) = ((vN x ^^^ vN y : Nat) : Int) := by
  have hv : ∀ z : Int, (BitVec.ofInt 64 z).toNat = vN z := fun z => by rw [BitVec.toNat_ofInt]; rfl
  show IntKind.u64.wrap (IntKind.i64.wrap ((BitVec.ofInt 64 x ^^^ BitVec.ofInt 64 y).toNat : Nat)) = _
  rw [BitVec.toNat_xor, hv, hv]
  have := Nat.xor_lt_two_pow (n := 64) (vN_lt x) (vN_lt y)
  rw [IntKind.wrap_u64, IntKind.wrap_i64]
  omega

/-- Where keys are unlike the first one. -/
def dif (keys : List Int) : Nat → Nat
  | 0 => 0
  | i + 1 => dif keys i ||| (vN (keys.getD i 0) ^^^ vN (keys.getD 0 0))
theorem dif_lt (keys : List Int) (i : Nat) : dif keys i < 18446744073709551616 := by
  induction i with
  | zero => exact (by decide : (0 : Nat) < 18446744073709551616)
  | succ i ih => exact Nat.or_lt_two_pow (n := 64) ih (Nat.xor_lt_two_pow (n := 64) (vN_lt _) (vN_lt _))
theorem dif_int (keys : List Int) (i : Nat) : bits .or .u64 (dif keys i : Nat) (IntKind.u64.wrap (bits .xor .i64 (keys.getD i 0) (keys.getD 0 0))) = (dif keys (i + 1) : Nat) := by
  rw [xor_two]
  exact bits_or_u64_nat _ _ (dif_lt _ _) (Nat.xor_lt_two_pow (n := 64) (vN_lt _) (vN_lt _))
theorem dif_bit (keys : List Int) (b : Nat) : ∀ i, (dif keys i).testBit b = false → ∀ j, j < i → (uN (keys.getD j 0)).testBit b = (uN (keys.getD 0 0)).testBit b := by
  intro i
  induction i with
  | zero => intro _ j hj; omega
  | succ i ih =>
    intro h j hj
    have h' : (dif keys i ||| (vN (keys.getD i 0) ^^^ vN (keys.getD 0 0))).testBit b = false := h
    rw [Nat.testBit_or, Nat.testBit_xor] at h'
    by_cases e : j = i
    · subst e
      have h2 : ((vN (keys.getD j 0)).testBit b ^^ (vN (keys.getD 0 0)).testBit b) = false := by
        cases hx : (dif keys j).testBit b
        · rw [hx] at h'; simpa using h'
        · rw [hx] at h'; simp at h'
      unfold uN
      rw [Nat.testBit_xor, Nat.testBit_xor]
      have : (vN (keys.getD j 0)).testBit b = (vN (keys.getD 0 0)).testBit b := by
        cases h3 : (vN (keys.getD j 0)).testBit b <;> cases h4 : (vN (keys.getD 0 0)).testBit b <;> rw [h3, h4] at h2 <;> simp at h2 ⊢
      rw [this]
    · refine ih ?_ j (by omega)
      cases hx : (dif keys i).testBit b
      · rfl
      · rw [hx] at h'; simp at h'
/-- What is above is alike for all. -/
theorem dif_end (keys : List Int) (n s : Nat) (h : dif keys n / 2 ^ s = 0) (j : Nat) (hj : j < n) : uN (keys.getD j 0) / 2 ^ s = uN (keys.getD 0 0) / 2 ^ s := by
  apply Nat.eq_of_testBit_eq
  intro i
  rw [Nat.testBit_div_two_pow, Nat.testBit_div_two_pow]
  refine dif_bit keys _ n ?_ j hj
  rw [← Nat.testBit_div_two_pow, h, Nat.zero_testBit]
/-- A digit is alike for all. -/
theorem dif_dig (keys : List Int) (n s : Nat) (h : dif keys n / 2 ^ s % 256 = 0) (j : Nat) (hj : j < n) : uN (keys.getD j 0) / 2 ^ s % 256 = uN (keys.getD 0 0) / 2 ^ s % 256 := by
  rw [show (256 : Nat) = 2 ^ 8 from rfl] at h ⊢
  apply Nat.eq_of_testBit_eq
  intro i
  rw [Nat.testBit_mod_two_pow, Nat.testBit_mod_two_pow]
  by_cases hi : i < 8
  · rw [Nat.testBit_div_two_pow, Nat.testBit_div_two_pow]
    congr 1
    refine dif_bit keys _ n ?_ j hj
    have h2 := Nat.testBit_mod_two_pow (dif keys n / 2 ^ s) 8 i
    rw [h, Nat.zero_testBit, decide_eq_true hi, Bool.true_and, Nat.testBit_div_two_pow] at h2
    exact h2.symm
  · simp [hi]

theorem obits_any (x : Int) (w : World) : Calls Tryz.prog 151 #[.int .i64 x] w fun e w' => e = .returned (.int .u64 (uN x : Nat)) ∧ w' = w := by
  have h := xor_top x
  go_enter Tryz.func151, Tryz.ntmps151
  go_wp2
  go_ret
  exact ⟨rfl, rfl⟩

/-- The digit of the key at a place, behind so many bits. -/
def dgt (keys : List Int) (s : Nat) (x : Int) : Nat := uN (keys.getD x.toNat 0) / 2 ^ s % 256

theorem digit_any (keys : List Int) (K : Option Addr) (n cK kb sb s : Nat) (x : Nat) (u : World) (h0 : u.cell? ⟨kb, 0, none⟩ = some (.slice K n cK)) (h1 : u.cell? ⟨sb, 0, none⟩ = some (.int .i64 (s : Int))) (hk : NumsAt .i64 u K keys) (hl : keys.length = n) (hx : x < n) (hs : s ≤ 64) :
    Calls Tryz.prog 150 #[.int .i64 (x : Int), .pointer (some ⟨kb, 0, none⟩), .pointer (some ⟨sb, 0, none⟩)] u fun e u' => e = .returned (.int .i64 (dgt keys s (x : Int) : Nat)) ∧ ∃ n, u' = u.drewN n := by
  obtain ⟨bb, off, rfl, hbl, hcb⟩ := num_at hk (i := x) (by omega)
  have hdg : dgt keys s (x : Int) = uN (keys.getD x 0) / 2 ^ s % 256 := by unfold dgt; rw [Int.toNat_natCast]
  rw [hdg]
  clear hk hl hdg
  have hB := fun w => obits_any (keys.getD x 0) w
  have hlt := uN_lt (keys.getD x 0)
  generalize keys.getD x 0 = y at *
  generalize uN y = z at *
  have HB := Lib.hid hB
  clear hB
  have q1 : (x : Int) < (n : Int) := by omega
  have q2 : (0 : Int) ≤ (x : Int) := by omega
  have q3 : (0 : Int) ≤ (s : Int) := by omega
  have q4 : (s : Int) ≤ 64 := by omega
  go_enter Tryz.func150, Tryz.ntmps150
  go_wp2
  go_quiet (refine Calls.quiet_of ((HB.out _).mono fun _ _ h => ⟨h.1, 0, h.2⟩))
  go_wp2
  go_ret
  refine ⟨?_, _, rfl⟩
  have e : ((z : Int) / 2 ^ s).tmod 256 = ((z / 2 ^ s % 256 : Nat) : Int) := by
    rw [show ((z : Int) / 2 ^ s) = ((z / 2 ^ s : Nat) : Int) by simp]
    generalize z / 2 ^ s = y
    rw [Int.tmod_eq_emod_of_nonneg (Int.natCast_nonneg _)]
    omega
  show Ending.returned (.int .i64 (wrap64 (((z : Int) / 2 ^ s).tmod 256))) = _
  rw [e]
  have hm : z / 2 ^ s % 256 < 256 := Nat.mod_lt _ (by decide)
  generalize z / 2 ^ s % 256 = m at *
  rw [show wrap64 (m : Int) = (m : Int) by unfold wrap64; omega]

end Go.Proofs.YtpnjccomngdblaaGreat
end

section
/- The contract of sorted. -/
set_option maxRecDepth 100000
namespace Go.Proofs.YtpnjccomngdblaaGreat
open Go.RowKit
open M
attribute [local go_sem ↓] Go.wp_at_zero Go.wp_at_succ

/-- The key of a place. -/
def kyI (keys : List Int) (x : Int) : Int := keys.getD x.toNat 0
def uK (keys : List Int) (x : Int) : Nat := uN (kyI keys x)

theorem dgt_digD (keys : List Int) (s : Nat) (x : Int) : ((dgt keys s x : Nat) : Int) = digD (uK keys) s x := rfl

/-- What sorted tells: the places in order by their keys, those of one key as they were. -/
def SortEnd (w : World) (ins keys : List Int) (e : Ending) (u : World) : Prop :=
  ∃ A cA outs, e = .returned (.slice A ins.length cA) ∧ ins.length ≤ cA ∧ NumsAt .i64 u A outs ∧ Same (kyI keys) ins outs ∧ Pw (kyI keys) outs ∧ Below w.heap.size w u

theorem low_done {keys ins ys : List Int} {s : Nat} (h64 : I64s keys) (hin : ∀ x ∈ ins, 0 ≤ x ∧ x < keys.length) (h1 : Same (lowD (uK keys) s) ins ys ∧ Pw (lowD (uK keys) s) ys) (hd : dif keys keys.length / 2 ^ s = 0) : Same (kyI keys) ins ys ∧ Pw (kyI keys) ys := by
  have h2 := low_end h1 (c := uN (keys.getD 0 0) / 2 ^ s) (fun x hx => dif_end keys keys.length s hd x.toNat (by have := hin x hx; omega))
  have hk : ∀ x ∈ ins, (uK keys x : Int) = kyI keys x + 9223372036854775808 := fun x hx => by
    have h3 := hin x hx
    have hm : keys.getD x.toNat 0 ∈ keys := memI keys x.toNat (by omega)
    exact uN_eq _ (h64 _ hm).1 (h64 _ hm).2
  exact Same.shift ⟨h2.1.congr hk, h2.2.congr fun x hx => hk x (h2.1.symm.mem hx)⟩

/-- What sorted holds behind so many digits. -/
structure SW (w0 : World) (kb sb s n : Nat) (K : Option Addr) (m cK : Nat) (keys ins : List Int) (A : Option Addr) (ys : List Int) (u : World) : Prop where
  nums : NumsAt .i64 u A ys
  low : Same (lowD (uK keys) s) ins ys ∧ Pw (lowD (uK keys) s) ys
  k0 : u.cell? ⟨kb, 0, none⟩ = some (.slice K m cK)
  s0 : u.cell? ⟨sb, 0, none⟩ = some (.int .i64 (s : Int))
  sz : u.frozen? ⟨sb, 0, none⟩ = false
  bel : Below w0.heap.size w0 u
  own : w0.heap.size ≤ sb

theorem SW.next {w0 u u1 : World} {kb sb s n m cK : Nat} {K A A' : Option Addr} {keys ins ys zs : List Int} (h : SW w0 kb sb s n K m cK keys ins A ys u) (hb : Below u.heap.size u u1) (hk : kb < w0.heap.size) (hn : NumsAt .i64 u1 A' zs) (hl : Same (lowD (uK keys) (s + 8)) ins zs ∧ Pw (lowD (uK keys) (s + 8)) zs) (x : Int) (hx : x = ((s + 8 : Nat) : Int)) :
    SW w0 kb u1.heap.size (s + 8) n K m cK keys ins A' zs (u1.alloc (.cells #[.int .i64 x] 3)) := by
  have hb1 := h.bel.trans (hb.mono h.bel.size)
  have ha : Below u1.heap.size u1 (u1.alloc (.cells #[.int .i64 x] 3)) := (Below.refl _ _).alloc (Nat.le_refl _) _
  have hk1 : u1.cell? ⟨kb, 0, none⟩ = some (.slice K m cK) := by rw [hb.cell (p := ⟨kb, 0, none⟩) (Nat.lt_of_lt_of_le hk h.bel.size)]; exact h.k0
  refine ⟨hn.kept ha, hl, by rw [ha.cell (p := ⟨kb, 0, none⟩) (World.block_lt_of_cell? u1 _ hk1)]; exact hk1, by rw [cell_new _ _ _ _ _ rfl, hx]; rfl, frozen_new _ _ _ _ _ rfl, hb1.trans (ha.mono hb1.size), hb1.size⟩

set_option maxHeartbeats 4000000 in
theorem sorted_any (A K : Option Addr) (n cA m cK : Nat) (ins keys : List Int) (w : World) (hx : NumsAt .i64 w A ins) (hl : ins.length = n) (hk : NumsAt .i64 w K keys) (hm : keys.length = m) (hcA : n ≤ cA) (hn : n ≤ 1000000) (hm2 : m ≤ 1000000) (h64 : I64s keys) (hin : ∀ x ∈ ins, 0 ≤ x ∧ x < m) :
    Calls Tryz.prog 123 #[.slice A n cA, .slice K m cK] w (SortEnd w ins keys) := by
  have HX := Lib.hid (And.intro hx (And.intro hl (And.intro hk (And.intro hm (And.intro h64 hin)))))
  clear hx hl hk hm h64 hin
  obtain ⟨kb, hkb⟩ : ∃ kb, kb = w.heap.size := ⟨_, rfl⟩
  obtain ⟨w0, hw0⟩ : ∃ w0, w0 = w.alloc (.cells #[.slice K m cK] 38) := ⟨_, rfl⟩
  have hb0 : Below w.heap.size w w0 := by rw [hw0]; exact (Below.refl _ _).alloc (Nat.le_refl _) _
  have k0 : w0.cell? ⟨kb, 0, none⟩ = some (.slice K m cK) := by rw [hw0, cell_new _ _ _ _ _ hkb]; rfl
  have HB0 := Lib.hid hb0
  have HW := Lib.hid (And.intro hkb hw0)
  go_enter Tryz.func123, Tryz.ntmps123
  go_upto_region 2 with fail
  rw [← hw0, ← hkb]
  clear hkb hw0 hb0
  go_wp2
  go_loopw [5, 7, 11] (fun v5 _ v11 wr => ∃ i : Nat, i ≤ m ∧ v11 = .int .i64 (i : Int) ∧ v5 = .int .u64 (dif keys i : Nat) ∧ wr = w0) (fun _ _ v11 _ => m - (intOf v11).toNat)
  case atStart => exact ⟨0, Nat.zero_le _, rfl, rfl, rfl⟩
  case round =>
    obtain ⟨i, him, rfl, rfl, rfl⟩ := hrel
    by_cases hlt : i < m
    · have hk := HX.out.2.2.1.kept HB0.out
      obtain ⟨bb, off, hAe, hbl, hcb⟩ := num_at hk (i := i) (by rw [HX.out.2.2.2.1]; exact hlt)
      obtain ⟨bb2, off2, hAe2, hbl2, hc0⟩ := num_at hk (i := 0) (by rw [HX.out.2.2.2.1]; omega)
      subst hAe
      simp only [Option.some.injEq, Addr.mk.injEq, and_true] at hAe2
      obtain ⟨rfl, rfl⟩ := hAe2
      have hdi := dif_int keys i
      generalize keys.getD i 0 = x at *
      generalize keys.getD 0 0 = y at *
      obtain ⟨d1, hd1⟩ : ∃ d1, d1 = dif keys (i + 1) := ⟨_, rfl⟩
      rw [← hd1] at hdi
      have HD1 := Lib.hid hd1
      clear hd1 hk
      rw [Nat.add_zero] at hc0
      have q1 : (i : Int) < (m : Int) := by omega
      have q2 : (0 : Int) ≤ (i : Int) := by omega
      have q3 : (0 : Int) < (m : Int) := by omega
      go_wp2
      go_roundw
      case rel => exact ⟨i + 1, by omega, by go_num, by rw [← HD1.out], trivial⟩
      case measure => simp [intOf]; omega
    · obtain rfl : i = m := by omega
      obtain ⟨w1, rfl⟩ : ∃ w1, w1 = wr := ⟨_, rfl⟩
      have q1 : ¬ (i : Int) < (i : Int) := by omega
      have hDl := dif_lt keys i
      have hkbl : kb < w1.heap.size := World.block_lt_of_cell? w1 _ k0
      have hal : Below w1.heap.size w1 (w1.alloc (.cells #[.int .i64 0] 3)) := (Below.refl _ _).alloc (Nat.le_refl _) _
      have hSW : SW w1 kb w1.heap.size 0 n K i cK keys ins A ins (w1.alloc (.cells #[.int .i64 0] 3)) :=
        ⟨(HX.out.1.kept HB0.out).kept hal, low_start _ _, by rw [hal.cell (p := ⟨kb, 0, none⟩) hkbl]; exact k0, by rw [cell_new _ _ _ _ _ rfl]; rfl, frozen_new _ _ _ _ _ rfl, hal, Nat.le_refl _⟩
      have HS := Lib.hid hSW
      have hend := fun (ys : List Int) (s : Nat) (h1 : Same (lowD (uK keys) s) ins ys ∧ Pw (lowD (uK keys) s) ys) (h2 : dif keys i / 2 ^ s = 0) => low_done (s := s) HX.out.2.2.2.2.1 (fun x hx => by rw [HX.out.2.2.2.1]; exact HX.out.2.2.2.2.2 x hx) h1 (by rw [HX.out.2.2.2.1]; exact h2)
      have hdig := fun (s : Nat) (h : dif keys i / 2 ^ s % 256 = 0) (x : Int) (hx : x ∈ ins) => dif_dig keys i s h x.toNat (by have := HX.out.2.2.2.2.2 x hx; omega)
      have HE := Lib.hid (And.intro hend (And.intro hdig hkbl))
      clear hSW hal hend hdig hkbl k0
      generalize dif keys i = D at *
      go_wp2
      go_loopg [0, 8] 9 (fun g v0 v8 wq => ∃ (j sb cA' : Nat) (A' : Option Addr) (ys : List Int), j ≤ 8 ∧ 9 - j ≤ g ∧ v0 = .slice A' n cA' ∧ n ≤ cA' ∧ v8 = .pointer (some ⟨sb, 0, none⟩) ∧ SW w1 kb sb (8 * j) n K i cK keys ins A' ys wq)
      case atStart => exact ⟨0, _, cA, A, ins, by omega, by omega, rfl, hcA, rfl, HS.out⟩
      case round =>
        obtain ⟨j, sb, cA', A', ys, hj, hg, rfl, hcA', rfl, hS⟩ := hrel
        clear HS
        obtain ⟨s, hs⟩ : ∃ s, s = 8 * j := ⟨_, rfl⟩
        rw [← hs] at hS
        have hs64 : s ≤ 64 := by omega
        have HSE := Lib.hid hs
        clear hs
        have s0 := hS.s0
        have q3 : (0 : Int) ≤ (s : Int) := by omega
        have q4 : (s : Int) ≤ 64 := by omega
        have qn : ((s : Int)).toNat = s := by omega
        have hdiv : (D : Int) / 2 ^ s = ((D / 2 ^ s : Nat) : Int) := by simp
        by_cases hz : D / 2 ^ s = 0
        · have hF := HE.out.1 ys s hS.low hz
          have HF := Lib.hid (And.intro hF hS)
          rw [hz] at hdiv
          have q5 : (D : Int) / 2 ^ s = 0 := hdiv
          clear hF hS hdiv hz
          go_wp2
          go_ret
          refine ⟨A', cA', ys, by rw [HX.out.2.1]; rfl, by rw [HX.out.2.1]; exact hcA', HF.out.2.nums, HF.out.1.1, HF.out.1.2, HB0.out.trans (HF.out.2.bel.mono HB0.out.size)⟩
        · have hj8 : j < 8 := by
            by_cases e : j < 8
            · exact e
            · exfalso
              have e2 : s = 64 := by have := HSE.out; omega
              apply hz
              rw [e2]
              exact Nat.div_eq_of_lt hDl
          have q5 : (0 : Int) < (D : Int) / 2 ^ s := by rw [hdiv]; exact Int.natCast_pos.2 (Nat.pos_of_ne_zero hz)
          have hmod : (D : Int) / 2 ^ s % 256 = ((D / 2 ^ s % 256 : Nat) : Int) := by
            rw [hdiv]
            generalize D / 2 ^ s = y
            omega
          have hkl : kb < wr.heap.size := Nat.lt_of_lt_of_le HE.out.2.2 hS.bel.size
          by_cases hz2 : D / 2 ^ s % 256 = 0
          · have hsk := low_skip hS.low (c := ((uN (keys.getD 0 0) / 2 ^ s % 256 : Nat) : Int)) (fun x hx => congrArg (fun k : Nat => (k : Int)) (HE.out.2.1 s hz2 x hx))
            have hnx := hS.next (Below.refl _ _) HE.out.2.2 hS.nums hsk _ rfl
            have HN := Lib.hid hnx
            rw [hz2] at hmod
            have q6 : (D : Int) / 2 ^ s % 256 = 0 := hmod
            clear hsk hnx hS hmod hdiv hz hz2
            go_wp2
            go_roundg (gk - 1)
            case rel =>
              refine ⟨j + 1, _, cA', A', ys, by omega, by omega, rfl, hcA', rfl, ?_⟩
              rw [show 8 * (j + 1) = s + 8 by rw [HSE.out]; omega, show ((s : Int) + 8) = ((s + 8 : Nat) : Int) by omega]
              exact HN.out
            case measure => omega
          · have hyl : ys.length = n := by rw [← HX.out.2.1]; exact (hS.low.1.perm.length_eq).symm
            have hmem : ∀ x ∈ ys, 0 ≤ x ∧ x < (i : Int) := fun x hx => HX.out.2.2.2.2.2 x (hS.low.1.symm.mem hx)
            have hC : DigC wr (.pointer (some ⟨kb, 0, none⟩)) (.pointer (some ⟨sb, 0, none⟩)) ys (dgt keys s) := by
              intro u hu x hx
              have hxr := hmem x hx
              obtain ⟨xn, rfl⟩ : ∃ xn : Nat, x = (xn : Int) := ⟨x.toNat, by omega⟩
              have hbk : Below w.heap.size w u := HB0.out.trans ((hS.bel.trans (hu.mono hS.bel.size)).mono HB0.out.size)
              exact digit_any keys K i cK kb sb s xn u (by rw [hu.cell (p := ⟨kb, 0, none⟩) hkl]; exact hS.k0) (by rw [hu.cell (p := ⟨sb, 0, none⟩) (World.block_lt_of_cell? wr _ hS.s0)]; exact hS.s0) (HX.out.2.2.1.kept hbk) HX.out.2.2.2.1 (by omega) hs64
            have hbu := bucketed_any A' n cA' ys _ _ _ wr hS.nums hyl hn hC (fun x _ => Nat.mod_lt _ (by decide))
            have HBU := Lib.hid hbu
            have q6 : (0 : Int) < (D : Int) / 2 ^ s % 256 := by rw [hmod]; exact Int.natCast_pos.2 (Nat.pos_of_ne_zero hz2)
            have HSS := Lib.hid (And.intro hS (And.intro hyl (And.intro hkl hmem)))
            clear hbu hC hmem hyl hmod hdiv hz hz2 hS hkl
            go_wp2_with fail
            (with_reducible refine HBU.out.mono ?_)
            rintro e u1 ⟨E, rfl, hnE, hbE⟩
            rw [HSS.out.2.1]
            have hst := low_step HSS.out.1.low (bks_same (dgt keys s) ys 256 (fun x _ => Nat.mod_lt _ (by decide)))
            have hnx := HSS.out.1.next hbE HE.out.2.2 hnE hst _ rfl
            have s1 : u1.cell? ⟨sb, 0, none⟩ = some (.int .i64 (s : Int)) := by rw [hbE.cell (p := ⟨sb, 0, none⟩) (World.block_lt_of_cell? wr _ HSS.out.1.s0)]; exact HSS.out.1.s0
            have HN := Lib.hid hnx
            clear hst hnx hnE hbE s0
            go_wp2
            go_roundg (gk - 1)
            case rel =>
              refine ⟨j + 1, _, n, _, bks (dgt keys s) ys 256, by omega, by omega, rfl, Nat.le_refl _, rfl, ?_⟩
              rw [show 8 * (j + 1) = s + 8 by rw [HSE.out]; omega, show ((s : Int) + 8) = ((s + 8 : Nat) : Int) by omega]
              exact HN.out
            case measure => omega

end Go.Proofs.YtpnjccomngdblaaGreat
end

section
/- Plain facts: the order of all places by their keys; how many different keys are less. No program is named here. -/
namespace Go.Proofs.YtpnjccomngdblaaGreat

variable {α : Type} {κ : α → Int}

/-- An order by insertion. -/
def insS (κ : α → Int) (x : α) : List α → List α
  | [] => [x]
  | y :: t => if κ x ≤ κ y then x :: y :: t else y :: insS κ x t
def isort (κ : α → Int) : List α → List α
  | [] => []
  | x :: t => insS κ x (isort κ t)

theorem insS_same (x : α) : ∀ t : List α, Same κ (x :: t) (insS κ x t) := by
  intro t
  induction t with
  | nil => exact Same.refl _ _
  | cons y t ih =>
    show Same κ (x :: y :: t) (if κ x ≤ κ y then x :: y :: t else y :: insS κ x t)
    split
    · exact Same.refl _ _
    · have h1 : Same κ ([x] ++ [y]) ([y] ++ [x]) := Same.swap (by intro a ha b hb; simp at ha hb; subst ha hb; omega)
      have h2 : Same κ (x :: y :: t) (y :: x :: t) := h1.app (Same.refl κ t)
      exact h2.trans ((Same.refl κ [y]).app ih)
theorem insS_mem {x z : α} : ∀ {t : List α}, z ∈ insS κ x t → z = x ∨ z ∈ t := fun {t} h => by
  have := (insS_same (κ := κ) x t).symm.mem h
  simpa using this
theorem insS_sorted (x : α) : ∀ {t : List α}, Pw κ t → Pw κ (insS κ x t) := by
  intro t
  induction t with
  | nil => intro _; simp [insS, Pw]
  | cons y t ih =>
    intro h
    unfold Pw at h
    rw [List.pairwise_cons] at h
    show Pw κ (if κ x ≤ κ y then x :: y :: t else y :: insS κ x t)
    unfold Pw
    split
    · rename_i hxy
      rw [List.pairwise_cons, List.pairwise_cons]
      refine ⟨fun z hz => ?_, h.1, h.2⟩
      rcases List.mem_cons.1 hz with e | e
      · rw [e]; exact hxy
      · have := h.1 z e; omega
    · rw [List.pairwise_cons]
      refine ⟨fun z hz => ?_, ih h.2⟩
      rcases insS_mem hz with e | e
      · rw [e]; omega
      · exact h.1 z e
theorem isort_ok : ∀ t : List α, Same κ t (isort κ t) ∧ Pw κ (isort κ t) := by
  intro t
  induction t with
  | nil => exact ⟨Same.refl _ _, List.Pairwise.nil⟩
  | cons x t ih => exact ⟨((Same.refl κ [x]).app ih.1).trans (insS_same x _), insS_sorted x ih.2⟩
theorem isort_uniq {xs ys : List α} (h : Same κ xs ys) (hp : Pw κ ys) : ys = isort κ xs := same_uniq (h.symm.trans (isort_ok xs).1) hp (isort_ok xs).2

/-- All places. -/
def plcs (n : Nat) : List Int := (List.range n).map fun i : Nat => (i : Int)
theorem plcs_length (n : Nat) : (plcs n).length = n := by simp [plcs]
theorem plcs_at (n i : Nat) (h : i < n) : (plcs n).getD i 0 = (i : Int) := by simp [plcs, List.getD_eq_getElem?_getD, h]
theorem plcs_mem {n : Nat} {x : Int} : x ∈ plcs n ↔ 0 ≤ x ∧ x < n := by
  unfold plcs
  rw [List.mem_map]
  constructor
  · rintro ⟨i, hi, rfl⟩; have := List.mem_range.1 hi; omega
  · rintro ⟨h1, h2⟩; exact ⟨x.toNat, List.mem_range.2 (by omega), by omega⟩
theorem plcs_nodup (n : Nat) : (plcs n).Nodup := by
  unfold plcs
  rw [List.Nodup, List.pairwise_map]
  exact List.nodup_range.imp fun h1 h2 => h1 (by omega)

/-- The places in order. -/
def ordP (κ : Int → Int) (n : Nat) : List Int := isort κ (plcs n)
theorem ordP_same (κ : Int → Int) (n : Nat) : Same κ (plcs n) (ordP κ n) := (isort_ok _).1
theorem ordP_pw (κ : Int → Int) (n : Nat) : Pw κ (ordP κ n) := (isort_ok _).2
theorem ordP_length (κ : Int → Int) (n : Nat) : (ordP κ n).length = n := by rw [← (ordP_same κ n).perm.length_eq, plcs_length]
theorem ordP_mem {κ : Int → Int} {n : Nat} {x : Int} : x ∈ ordP κ n ↔ 0 ≤ x ∧ x < n := by rw [← (ordP_same κ n).perm.mem_iff, plcs_mem]
theorem ordP_nodup (κ : Int → Int) (n : Nat) : (ordP κ n).Nodup := ((ordP_same κ n).perm.nodup_iff).1 (plcs_nodup n)

/-- Is it the first one of its key? -/
def fstB (κ : Int → Int) (k : Nat) : Bool := (List.range k).all fun j : Nat => decide (κ j ≠ κ k)
/-- How many different keys are less. -/
def nless (κ : Int → Int) (n : Nat) (v : Int) : Nat := ((List.range n).filter fun k : Nat => decide (κ k < v) && fstB κ k).length
def rnkL (κ : Int → Int) (n : Nat) : List Int := (List.range n).map fun p : Nat => ((nless κ n (κ p) : Nat) : Int)
theorem rnkL_length (κ : Int → Int) (n : Nat) : (rnkL κ n).length = n := by simp [rnkL]
theorem rnkL_at (κ : Int → Int) (n p : Nat) (h : p < n) : (rnkL κ n).getD p 0 = ((nless κ n (κ p) : Nat) : Int) := by simp [rnkL, List.getD_eq_getElem?_getD, h]

theorem fst_one (κ : Int → Int) (a : Int) : ∀ n, ((List.range n).filter fun k : Nat => decide (κ k = a) && fstB κ k).length = if ∃ k : Nat, k < n ∧ κ k = a then 1 else 0 := by
  intro n
  induction n with
  | zero => simp
  | succ n ih =>
    rw [List.range_succ, List.filter_append, List.length_append, ih]
    by_cases h : ∃ k : Nat, k < n ∧ κ k = a
    · obtain ⟨k, h1, h2⟩ := h
      rw [if_pos ⟨k, h1, h2⟩, if_pos ⟨k, by omega, h2⟩]
      have : (decide (κ n = a) && fstB κ n) = false := by
        by_cases e : κ n = a
        · rw [decide_eq_true e, Bool.true_and]
          unfold fstB
          rw [List.all_eq_false]
          exact ⟨k, List.mem_range.2 h1, by simp [h2, e]⟩
        · simp [e]
      rw [List.filter_cons, this]; rfl
    · rw [if_neg h]
      by_cases e : κ n = a
      · rw [if_pos ⟨n, by omega, e⟩]
        have : (decide (κ n = a) && fstB κ n) = true := by
          rw [decide_eq_true e, Bool.true_and]
          unfold fstB
          rw [List.all_eq_true]
          intro j hj
          have hj' := List.mem_range.1 hj
          simp only [decide_eq_true_eq]
          exact fun e2 => h ⟨j, hj', by omega⟩
        rw [List.filter_cons, this]; rfl
      · rw [if_neg (fun ⟨k, h1, h2⟩ => by
          by_cases e2 : k = n
          · subst e2; exact e h2
          · exact h ⟨k, by omega, h2⟩)]
        rw [List.filter_cons, decide_eq_false e]; rfl

theorem filter_two {β : Type} (l : List β) (p q r : β → Bool) (h1 : ∀ x ∈ l, p x = (q x || r x)) (h2 : ∀ x ∈ l, (q x && r x) = false) : (l.filter p).length = (l.filter q).length + (l.filter r).length := by
  induction l with
  | nil => rfl
  | cons x l ih =>
    have a := h1 x (by simp)
    have b := h2 x (by simp)
    have c := ih (fun y hy => h1 y (by simp [hy])) (fun y hy => h2 y (by simp [hy]))
    rw [List.filter_cons, List.filter_cons, List.filter_cons, a]
    cases hq : q x <;> cases hr : r x <;> simp [hq, hr] at b ⊢ <;> omega

/-- Ranks in order: one more, where another key begins. -/
def rkI (κ : Int → Int) (l : List Int) : Nat → Nat
  | 0 => 0
  | i + 1 => rkI κ l i + if κ (l.getD i 0) = κ (l.getD (i + 1) 0) then 0 else 1

theorem pw_at {κ : Int → Int} {l : List Int} (h : Pw κ l) {i j : Nat} (hij : i ≤ j) (hj : j < l.length) : κ (l.getD i 0) ≤ κ (l.getD j 0) := by
  rcases Nat.eq_or_lt_of_le hij with rfl | hlt
  · exact Int.le_refl _
  · have := List.pairwise_iff_getElem.1 h i j (by omega) hj hlt
    simpa [List.getD_eq_getElem?_getD, List.getElem?_eq_getElem hj, List.getElem?_eq_getElem (show i < l.length by omega)] using this

theorem rkI_less (κ : Int → Int) (n : Nat) : ∀ i, i < n → rkI κ (ordP κ n) i = nless κ n (κ ((ordP κ n).getD i 0)) := by
  have hpl : ∀ k : Nat, k < n → ∃ j, j < n ∧ (ordP κ n).getD j 0 = (k : Int) := fun k hk => by
    have hm : (k : Int) ∈ ordP κ n := ordP_mem.2 (by omega)
    obtain ⟨j, hj, e⟩ := List.getElem_of_mem hm
    exact ⟨j, by rw [ordP_length] at hj; exact hj, by simp [List.getD_eq_getElem?_getD, hj, e]⟩
  have hp := ordP_pw κ n
  have hl := ordP_length κ n
  intro i
  induction i with
  | zero =>
    intro h0
    show 0 = nless κ n _
    unfold nless
    symm
    rw [List.length_eq_zero_iff, List.filter_eq_nil_iff]
    intro k hk
    obtain ⟨j, hj, e⟩ := hpl k (List.mem_range.1 hk)
    have := pw_at hp (Nat.zero_le j) (by omega)
    rw [e] at this
    simp only [Bool.and_eq_true, decide_eq_true_eq, not_and]
    intro h; omega
  | succ i ih =>
    intro hi
    show rkI κ (ordP κ n) i + (if κ ((ordP κ n).getD i 0) = κ ((ordP κ n).getD (i + 1) 0) then 0 else 1) = _
    rw [ih (by omega)]
    have hle := pw_at hp (show i ≤ i + 1 by omega) (by omega)
    by_cases e : κ ((ordP κ n).getD i 0) = κ ((ordP κ n).getD (i + 1) 0)
    · rw [if_pos e, e]; rfl
    · rw [if_neg e]
      have h1 := fst_one κ (κ ((ordP κ n).getD i 0)) n
      rw [if_pos] at h1
      · refine Eq.trans (congrArg (nless κ n (κ ((ordP κ n).getD i 0)) + ·) h1.symm) ?_
        unfold nless
        symm
        refine filter_two _ _ _ _ (fun k hk => ?_) (fun k hk => ?_)
        · obtain ⟨j, hj, e2⟩ := hpl k (List.mem_range.1 hk)
          rw [← Bool.and_or_distrib_right]
          congr 1
          rw [← Bool.decide_or, decide_eq_decide]
          by_cases hji : j ≤ i
          · have := pw_at hp hji (by omega)
            rw [e2] at this
            omega
          · have := pw_at hp (show i + 1 ≤ j by omega) (by omega)
            rw [e2] at this
            omega
        · by_cases h : κ k = κ ((ordP κ n).getD i 0)
          · simp [h]
          · rw [decide_eq_false h]; simp
      · have hm := (ordP_mem (κ := κ) (n := n) (x := (ordP κ n).getD i 0)).1 (by
          have : i < (ordP κ n).length := by omega
          simp [List.getD_eq_getElem?_getD, this])
        exact ⟨((ordP κ n).getD i 0).toNat, by omega, by rw [show ((((ordP κ n).getD i 0).toNat : Nat) : Int) = (ordP κ n).getD i 0 by omega]⟩

/-- A list that has at each place its rank is that of the ranks. -/
theorem rnk_uniq (κ : Int → Int) (n : Nat) (d : Nat → Int) (h : ∀ i, i < n → d ((ordP κ n).getD i 0).toNat = ((rkI κ (ordP κ n) i : Nat) : Int)) : ∀ p, p < n → d p = (rnkL κ n).getD p 0 := by
  intro p hp
  have hm : (p : Int) ∈ ordP κ n := ordP_mem.2 (by omega)
  obtain ⟨j, hj, e⟩ := List.getElem_of_mem hm
  rw [ordP_length] at hj
  have e2 : (ordP κ n).getD j 0 = (p : Int) := by simp [List.getD_eq_getElem?_getD, ordP_length, hj, e]
  have h1 := h j hj
  rw [rkI_less κ n j hj, e2, Int.toNat_natCast] at h1
  rw [h1, rnkL_at κ n p hp]

end Go.Proofs.YtpnjccomngdblaaGreat
end

section
/- The contracts of ranked, of the closures that it is handed, of Ranks, Pairs and Stable. -/
set_option maxRecDepth 100000
namespace Go.Proofs.YtpnjccomngdblaaGreat
open Go.RowKit
open M
attribute [local go_sem ↓] Go.wp_at_zero Go.wp_at_succ

/-- What ranked tells: at each place how many other keys stand ahead. -/
def RankEnd (w : World) (κ : Int → Int) (n : Nat) (e : Ending) (u : World) : Prop :=
  ∃ D, e = .returned (.slice (some ⟨D, 0, none⟩) n n) ∧ NumsAt .i64 u (some ⟨D, 0, none⟩) (rnkL κ n) ∧ Below w.heap.size w u

/-- What is asked of the closure: it tells whether two places have one key, and only reads. -/
def EqC32 (w : World) (cb : Value) (n : Nat) (κ : Int → Int) : Prop :=
  ∀ u, Below w.heap.size w u → ∀ x y : Nat, x < n → y < n → Calls Tryz.prog 126 #[.int .i64 (x : Int), .int .i64 (y : Int), cb] u fun e u' => e = .returned (.bool (decide (κ x = κ y))) ∧ ∃ q, u' = u.drewN q

set_option maxHeartbeats 4000000 in
theorem ranked32_any (A : Option Addr) (n cA : Nat) (κ : Int → Int) (cb : Value) (w : World) (hx : NumsAt .i64 w A (ordP κ n)) (hn : n ≤ 1000000) (hC : EqC32 w cb n κ) :
    Calls Tryz.prog 125 #[.slice A n cA, .func (.func 126) #[] #[cb]] w (RankEnd w κ n) := by
  have hl := ordP_length κ n
  have hme : ∀ i, i < n → ∃ p : Nat, (ordP κ n).getD i 0 = (p : Int) ∧ p < n := fun i hi => by
    have hm : (ordP κ n).getD i 0 ∈ ordP κ n := by simp [List.getD_eq_getElem?_getD, hl, hi]
    have := ordP_mem.1 hm
    exact ⟨((ordP κ n).getD i 0).toNat, by omega, by omega⟩
  have hnd : ∀ i j, i < n → j < n → (ordP κ n).getD i 0 = (ordP κ n).getD j 0 → i = j := fun i j hi hj e => by
    simp only [List.getD_eq_getElem?_getD, List.getElem?_eq_getElem (show i < (ordP κ n).length by omega), List.getElem?_eq_getElem (show j < (ordP κ n).length by omega), Option.getD_some] at e
    exact (List.getElem_inj (h₀ := by omega) (h₁ := by omega) (ordP_nodup κ n)).1 e
  have HX := Lib.hid (And.intro hx (And.intro hl (And.intro hme (And.intro hC hnd))))
  clear hx hl hme hC hnd
  obtain ⟨i0, hi, hz0, hz1, hz2⟩ := info_parts info3
  go_enter Tryz.func125, Tryz.ntmps125
  go_wp2_with (first | (at_make; refine wpList_make_full _ rfl _ _ 38 rfl w.heap.size 3 i0 (.int .i64 0) 1 Tryz.underlying38 hi hz0 hz1 _ _ _ _ n rfl rfl rfl rfl ?b2 ?b3 (Nat.le_refl _) ?_))
  case b2 => first | omega | (rw [hz2]; omega)
  case b3 => unfold maxLen; omega
  intro w1 hown hgrow
  have hD := DI.made (Below.refl _ _) hown hgrow
  have HD := Lib.hid hD
  clear hown hgrow hD hi hz0 hz1 hz2
  obtain ⟨D, hDe⟩ : ∃ D, D = w.heap.size := ⟨_, rfl⟩
  rw [← hDe] at HD
  rw [← hDe]
  clear hDe
  go_wp2
  go_loopw [6, 7, 8, 14] (fun v6 _ _ v14 wr => ∃ (i : Nat) (d : Nat → Int), i ≤ n ∧ v14 = .int .i64 (i : Int) ∧ v6 = .int .i64 (rkI κ (ordP κ n) (i - 1) : Nat) ∧ rkI κ (ordP κ n) (i - 1) ≤ i ∧ DI w D n d wr ∧ ∀ j, j < i → d ((ordP κ n).getD j 0).toNat = (rkI κ (ordP κ n) j : Nat)) (fun _ _ _ v14 _ => n - (intOf v14).toNat)
  case atStart => exact ⟨0, _, Nat.zero_le _, rfl, rfl, Nat.zero_le _, HD.out, fun j hj => by omega⟩
  case round =>
    obtain ⟨i, d, hin, rfl, rfl, hrk, hDr, hdd⟩ := hrel
    clear HD
    by_cases hlt : i < n
    · obtain ⟨bb, off, hAe, hbl, hcb⟩ := num_at (HX.out.1.kept hDr.bel) (i := i) (by rw [HX.out.2.1]; exact hlt)
      obtain ⟨p, hp, hpn⟩ := HX.out.2.2.1 i hlt
      rw [hp] at hcb
      have c1 := hDr.cell p hpn
      have z1 := hDr.frz p hpn
      have hinj := fun j (hj : j < i) => show ((ordP κ n).getD j 0).toNat ≠ p from fun e => by
        obtain ⟨p2, h1, h2⟩ := HX.out.2.2.1 j (by omega)
        have := HX.out.2.2.2.2 j i (by omega) hlt (by rw [h1] at e ⊢; rw [hp]; omega)
        omega
      have q1 : (i : Int) < (n : Int) := by omega
      have q2 : (0 : Int) ≤ (i : Int) := by omega
      have q3 : (p : Int) < (n : Int) := by omega
      have q4 : (0 : Int) ≤ (p : Int) := by omega
      by_cases hi0 : i = 0
      · subst hi0
        have hset := hDr.set hpn 0
        have HS := Lib.hid (And.intro hset (And.intro hp hinj))
        subst hAe
        clear hset hDr hp hinj hdd hrk
        have e0 : rkI κ (ordP κ n) (0 - 1) = 0 := rfl
        rw [e0]
        clear e0
        rw [Nat.add_zero] at hcb
        go_wp2
        go_roundw
        case rel =>
          refine ⟨1, _, by omega, rfl, rfl, Nat.zero_le _, HS.out.1, fun j hj => ?_⟩
          obtain rfl : j = 0 := by omega
          rw [HS.out.2.1, Int.toNat_natCast, if_pos rfl]; rfl
        case measure => simp [intOf]; omega
      · obtain ⟨ip, rfl⟩ : ∃ ip, i = ip + 1 := ⟨i - 1, by omega⟩
        obtain ⟨pp, hpp, hppn⟩ := HX.out.2.2.1 ip (by omega)
        obtain ⟨bb2, off2, hAe2, -, hcb2⟩ := num_at (HX.out.1.kept hDr.bel) (i := ip) (by rw [HX.out.2.1]; omega)
        rw [hpp] at hcb2
        subst hAe
        simp only [Option.some.injEq, Addr.mk.injEq, and_true] at hAe2
        obtain ⟨rfl, rfl⟩ := hAe2
        have hcl := HX.out.2.2.2.1 wr hDr.bel pp p hppn hpn
        rw [show ip + 1 - 1 = ip by omega] at hrk ⊢
        have hsu : rkI κ (ordP κ n) (ip + 1) = rkI κ (ordP κ n) ip + if κ pp = κ p then 0 else 1 := by
          show rkI κ (ordP κ n) ip + (if κ ((ordP κ n).getD ip 0) = κ ((ordP κ n).getD (ip + 1) 0) then 0 else 1) = _
          rw [hpp, hp]
        have hset := fun q x => (hDr.drewN q).set hpn x
        have HS := Lib.hid (And.intro hset (And.intro hp (And.intro hinj (And.intro hdd hsu))))
        have HCL := Lib.hid hcl
        clear hset hDr hp hinj hdd hpp hcl hsu
        generalize rkI κ (ordP κ n) ip = r at *
        have q5 : (0 : Int) < (ip : Int) + 1 := by omega
        have q6 : IntKind.i64.wrap (((ip + 1 : Nat) : Int) - 1) = (ip : Int) := by rw [show ((ip + 1 : Nat) : Int) - 1 = (ip : Int) by omega]; exact IntWalk.i64_in _ (by omega)
        have q6b : IntKind.i64.wrap ((ip : Int) + 1 - 1) = (ip : Int) := by rw [Int.add_sub_cancel]; exact IntWalk.i64_in _ (by omega)
        have q7 : (ip : Int) < (n : Int) := by omega
        have q8 : (0 : Int) ≤ (ip : Int) := by omega
        go_wp2_with fail
        (with_reducible refine HCL.out.mono ?_)
        rintro e u1 ⟨rfl, q, rfl⟩
        have c1' : (wr.drewN q).cell? ⟨D, p, none⟩ = some (.int .i64 (d p)) := by simpa using c1
        have z1' : (wr.drewN q).frozen? ⟨D, p, none⟩ = false := by simpa using z1
        have HS2 := Lib.hid (And.intro (HS.out.1 q) HS.out.2)
        clear c1 z1 HCL HS
        generalize wr.drewN q = wq at *
        by_cases hk : κ pp = κ p
        · rw [decide_eq_true hk]
          go_wp2
          go_roundw
          case rel =>
            obtain ⟨h1, h2, h3, h4, h5⟩ := HS2.out
            have h5 : rkI κ (ordP κ n) (ip + 1) = r := by rw [h5, if_pos hk]; omega
            refine ⟨ip + 1 + 1, _, by omega, by go_num, by rw [show ip + 1 + 1 - 1 = ip + 1 by omega, h5], by rw [show ip + 1 + 1 - 1 = ip + 1 by omega, h5]; omega, h1 r, fun j hj => ?_⟩
            by_cases ej : j = ip + 1
            · rw [ej, h2, Int.toNat_natCast, if_pos rfl, h5]
            · rw [if_neg (h3 j (by omega)), h4 j (by omega)]
          case measure => simp [intOf]; omega
        · rw [decide_eq_false hk]
          go_wp2
          go_roundw
          case rel =>
            obtain ⟨h1, h2, h3, h4, h5⟩ := HS2.out
            rw [if_neg hk] at h5
            refine ⟨ip + 1 + 1, _, by omega, by go_num, by rw [show ip + 1 + 1 - 1 = ip + 1 by omega, h5]; go_num, by rw [show ip + 1 + 1 - 1 = ip + 1 by omega, h5]; omega, h1 _, fun j hj => ?_⟩
            by_cases ej : j = ip + 1
            · rw [ej, h2, Int.toNat_natCast, if_pos rfl, h5]; rfl
            · rw [if_neg (h3 j (by omega)), h4 j (by omega)]
          case measure => simp [intOf]; omega
    · obtain rfl : i = n := by omega
      have HF := Lib.hid (And.intro hDr hdd)
      clear hDr hdd
      go_wp2
      go_ret
      exact ⟨D, rfl, HF.out.1.nums (rnkL_length κ i) (rnk_uniq κ i d HF.out.2), HF.out.1.bel⟩

/-- What is asked of the closure: it tells whether two places have one key, and only reads. -/
def EqC33 (w : World) (cb cc : Value) (n : Nat) (κ : Int → Int) : Prop :=
  ∀ u, Below w.heap.size w u → ∀ x y : Nat, x < n → y < n → Calls Tryz.prog 154 #[.int .i64 (x : Int), .int .i64 (y : Int), cb, cc] u fun e u' => e = .returned (.bool (decide (κ x = κ y))) ∧ ∃ q, u' = u.drewN q

set_option maxHeartbeats 4000000 in
theorem ranked33_any (A : Option Addr) (n cA : Nat) (κ : Int → Int) (cb cc : Value) (w : World) (hx : NumsAt .i64 w A (ordP κ n)) (hn : n ≤ 1000000) (hC : EqC33 w cb cc n κ) :
    Calls Tryz.prog 125 #[.slice A n cA, .func (.func 154) #[] #[cb, cc]] w (RankEnd w κ n) := by
  have hl := ordP_length κ n
  have hme : ∀ i, i < n → ∃ p : Nat, (ordP κ n).getD i 0 = (p : Int) ∧ p < n := fun i hi => by
    have hm : (ordP κ n).getD i 0 ∈ ordP κ n := by simp [List.getD_eq_getElem?_getD, hl, hi]
    have := ordP_mem.1 hm
    exact ⟨((ordP κ n).getD i 0).toNat, by omega, by omega⟩
  have hnd : ∀ i j, i < n → j < n → (ordP κ n).getD i 0 = (ordP κ n).getD j 0 → i = j := fun i j hi hj e => by
    simp only [List.getD_eq_getElem?_getD, List.getElem?_eq_getElem (show i < (ordP κ n).length by omega), List.getElem?_eq_getElem (show j < (ordP κ n).length by omega), Option.getD_some] at e
    exact (List.getElem_inj (h₀ := by omega) (h₁ := by omega) (ordP_nodup κ n)).1 e
  have HX := Lib.hid (And.intro hx (And.intro hl (And.intro hme (And.intro hC hnd))))
  clear hx hl hme hC hnd
  obtain ⟨i0, hi, hz0, hz1, hz2⟩ := info_parts info3
  go_enter Tryz.func125, Tryz.ntmps125
  go_wp2_with (first | (at_make; refine wpList_make_full _ rfl _ _ 38 rfl w.heap.size 3 i0 (.int .i64 0) 1 Tryz.underlying38 hi hz0 hz1 _ _ _ _ n rfl rfl rfl rfl ?b2 ?b3 (Nat.le_refl _) ?_))
  case b2 => first | omega | (rw [hz2]; omega)
  case b3 => unfold maxLen; omega
  intro w1 hown hgrow
  have hD := DI.made (Below.refl _ _) hown hgrow
  have HD := Lib.hid hD
  clear hown hgrow hD hi hz0 hz1 hz2
  obtain ⟨D, hDe⟩ : ∃ D, D = w.heap.size := ⟨_, rfl⟩
  rw [← hDe] at HD
  rw [← hDe]
  clear hDe
  go_wp2
  go_loopw [6, 7, 8, 14] (fun v6 _ _ v14 wr => ∃ (i : Nat) (d : Nat → Int), i ≤ n ∧ v14 = .int .i64 (i : Int) ∧ v6 = .int .i64 (rkI κ (ordP κ n) (i - 1) : Nat) ∧ rkI κ (ordP κ n) (i - 1) ≤ i ∧ DI w D n d wr ∧ ∀ j, j < i → d ((ordP κ n).getD j 0).toNat = (rkI κ (ordP κ n) j : Nat)) (fun _ _ _ v14 _ => n - (intOf v14).toNat)
  case atStart => exact ⟨0, _, Nat.zero_le _, rfl, rfl, Nat.zero_le _, HD.out, fun j hj => by omega⟩
  case round =>
    obtain ⟨i, d, hin, rfl, rfl, hrk, hDr, hdd⟩ := hrel
    clear HD
    by_cases hlt : i < n
    · obtain ⟨bb, off, hAe, hbl, hcb⟩ := num_at (HX.out.1.kept hDr.bel) (i := i) (by rw [HX.out.2.1]; exact hlt)
      obtain ⟨p, hp, hpn⟩ := HX.out.2.2.1 i hlt
      rw [hp] at hcb
      have c1 := hDr.cell p hpn
      have z1 := hDr.frz p hpn
      have hinj := fun j (hj : j < i) => show ((ordP κ n).getD j 0).toNat ≠ p from fun e => by
        obtain ⟨p2, h1, h2⟩ := HX.out.2.2.1 j (by omega)
        have := HX.out.2.2.2.2 j i (by omega) hlt (by rw [h1] at e ⊢; rw [hp]; omega)
        omega
      have q1 : (i : Int) < (n : Int) := by omega
      have q2 : (0 : Int) ≤ (i : Int) := by omega
      have q3 : (p : Int) < (n : Int) := by omega
      have q4 : (0 : Int) ≤ (p : Int) := by omega
      by_cases hi0 : i = 0
      · subst hi0
        have hset := hDr.set hpn 0
        have HS := Lib.hid (And.intro hset (And.intro hp hinj))
        subst hAe
        clear hset hDr hp hinj hdd hrk
        have e0 : rkI κ (ordP κ n) (0 - 1) = 0 := rfl
        rw [e0]
        clear e0
        rw [Nat.add_zero] at hcb
        go_wp2
        go_roundw
        case rel =>
          refine ⟨1, _, by omega, rfl, rfl, Nat.zero_le _, HS.out.1, fun j hj => ?_⟩
          obtain rfl : j = 0 := by omega
          rw [HS.out.2.1, Int.toNat_natCast, if_pos rfl]; rfl
        case measure => simp [intOf]; omega
      · obtain ⟨ip, rfl⟩ : ∃ ip, i = ip + 1 := ⟨i - 1, by omega⟩
        obtain ⟨pp, hpp, hppn⟩ := HX.out.2.2.1 ip (by omega)
        obtain ⟨bb2, off2, hAe2, -, hcb2⟩ := num_at (HX.out.1.kept hDr.bel) (i := ip) (by rw [HX.out.2.1]; omega)
        rw [hpp] at hcb2
        subst hAe
        simp only [Option.some.injEq, Addr.mk.injEq, and_true] at hAe2
        obtain ⟨rfl, rfl⟩ := hAe2
        have hcl := HX.out.2.2.2.1 wr hDr.bel pp p hppn hpn
        rw [show ip + 1 - 1 = ip by omega] at hrk ⊢
        have hsu : rkI κ (ordP κ n) (ip + 1) = rkI κ (ordP κ n) ip + if κ pp = κ p then 0 else 1 := by
          show rkI κ (ordP κ n) ip + (if κ ((ordP κ n).getD ip 0) = κ ((ordP κ n).getD (ip + 1) 0) then 0 else 1) = _
          rw [hpp, hp]
        have hset := fun q x => (hDr.drewN q).set hpn x
        have HS := Lib.hid (And.intro hset (And.intro hp (And.intro hinj (And.intro hdd hsu))))
        have HCL := Lib.hid hcl
        clear hset hDr hp hinj hdd hpp hcl hsu
        generalize rkI κ (ordP κ n) ip = r at *
        have q5 : (0 : Int) < (ip : Int) + 1 := by omega
        have q6 : IntKind.i64.wrap (((ip + 1 : Nat) : Int) - 1) = (ip : Int) := by rw [show ((ip + 1 : Nat) : Int) - 1 = (ip : Int) by omega]; exact IntWalk.i64_in _ (by omega)
        have q6b : IntKind.i64.wrap ((ip : Int) + 1 - 1) = (ip : Int) := by rw [Int.add_sub_cancel]; exact IntWalk.i64_in _ (by omega)
        have q7 : (ip : Int) < (n : Int) := by omega
        have q8 : (0 : Int) ≤ (ip : Int) := by omega
        go_wp2_with fail
        (with_reducible refine HCL.out.mono ?_)
        rintro e u1 ⟨rfl, q, rfl⟩
        have c1' : (wr.drewN q).cell? ⟨D, p, none⟩ = some (.int .i64 (d p)) := by simpa using c1
        have z1' : (wr.drewN q).frozen? ⟨D, p, none⟩ = false := by simpa using z1
        have HS2 := Lib.hid (And.intro (HS.out.1 q) HS.out.2)
        clear c1 z1 HCL HS
        generalize wr.drewN q = wq at *
        by_cases hk : κ pp = κ p
        · rw [decide_eq_true hk]
          go_wp2
          go_roundw
          case rel =>
            obtain ⟨h1, h2, h3, h4, h5⟩ := HS2.out
            have h5 : rkI κ (ordP κ n) (ip + 1) = r := by rw [h5, if_pos hk]; omega
            refine ⟨ip + 1 + 1, _, by omega, by go_num, by rw [show ip + 1 + 1 - 1 = ip + 1 by omega, h5], by rw [show ip + 1 + 1 - 1 = ip + 1 by omega, h5]; omega, h1 r, fun j hj => ?_⟩
            by_cases ej : j = ip + 1
            · rw [ej, h2, Int.toNat_natCast, if_pos rfl, h5]
            · rw [if_neg (h3 j (by omega)), h4 j (by omega)]
          case measure => simp [intOf]; omega
        · rw [decide_eq_false hk]
          go_wp2
          go_roundw
          case rel =>
            obtain ⟨h1, h2, h3, h4, h5⟩ := HS2.out
            rw [if_neg hk] at h5
            refine ⟨ip + 1 + 1, _, by omega, by go_num, by rw [show ip + 1 + 1 - 1 = ip + 1 by omega, h5]; go_num, by rw [show ip + 1 + 1 - 1 = ip + 1 by omega, h5]; omega, h1 _, fun j hj => ?_⟩
            by_cases ej : j = ip + 1
            · rw [ej, h2, Int.toNat_natCast, if_pos rfl, h5]; rfl
            · rw [if_neg (h3 j (by omega)), h4 j (by omega)]
          case measure => simp [intOf]; omega
    · obtain rfl : i = n := by omega
      have HF := Lib.hid (And.intro hDr hdd)
      clear hDr hdd
      go_wp2
      go_ret
      exact ⟨D, rfl, HF.out.1.nums (rnkL_length κ i) (rnk_uniq κ i d HF.out.2), HF.out.1.bel⟩

end Go.Proofs.YtpnjccomngdblaaGreat
end

section
/- The contracts of Ranks, Pairs and Stable. -/
set_option maxRecDepth 100000
namespace Go.Proofs.YtpnjccomngdblaaGreat
open Go.RowKit
open M
attribute [local go_sem ↓] Go.wp_at_zero Go.wp_at_succ

/-- A list in its box. -/
structure KX (w : World) (kb : Nat) (K : Option Addr) (n cK : Nat) (keys : List Int) (u : World) : Prop where
  c0 : u.cell? ⟨kb, 0, none⟩ = some (.slice K n cK)
  nums : NumsAt .i64 u K keys
  len : keys.length = n
  bel : Below w.heap.size w u
variable {w u u' : World} {kb : Nat} {K : Option Addr} {n cK : Nat} {keys : List Int}
theorem KX.kept (h : KX w kb K n cK keys u) (hb : Below u.heap.size u u') : KX w kb K n cK keys u' :=
  ⟨by rw [hb.cell (p := ⟨kb, 0, none⟩) (World.block_lt_of_cell? u _ h.c0)]; exact h.c0, h.nums.kept hb, h.len, h.bel.trans (hb.mono h.bel.size)⟩
theorem KX.drew (h : KX w kb K n cK keys u) : KX w kb K n cK keys u.drew := h.kept ((Below.refl _ _).drew)
theorem KX.new (w : World) (K : Option Addr) (n cK : Nat) (keys : List Int) (h : NumsAt .i64 w K keys) (hl : keys.length = n) : KX w w.heap.size K n cK keys (w.alloc (.cells #[.slice K n cK] 38)) := by
  have hb : Below w.heap.size w (w.alloc (.cells #[.slice K n cK] 38)) := (Below.refl _ _).alloc (Nat.le_refl _) _
  exact ⟨by rw [cell_new _ _ _ _ _ rfl]; rfl, h.kept hb, hl, hb⟩

theorem places_nums (n : Nat) (w : World) (hn : n ≤ 1000000) : Calls Tryz.prog 124 #[.int .i64 (n : Int)] w fun e u => ∃ D, e = .returned (.slice (some ⟨D, 0, none⟩) n n) ∧ NumsAt .i64 u (some ⟨D, 0, none⟩) (plcs n) ∧ Below w.heap.size w u :=
  (places_any n w hn).mono fun _ _ ⟨D, h1, h2⟩ => ⟨D, h1, h2.nums (plcs_length n) (fun i hi => (plcs_at n i hi).symm), h2.bel⟩

/-- Sorted tells all places in order. -/
theorem sorted_all (A K : Option Addr) (n cA cK : Nat) (ins keys : List Int) (κ : Int → Int) (w : World) (hx : NumsAt .i64 w A ins) (hk : NumsAt .i64 w K keys) (hm : keys.length = n) (hcA : n ≤ cA) (hn : n ≤ 1000000) (h64 : I64s keys) (hl : ins.length = n) (hin : ∀ x ∈ ins, 0 ≤ x ∧ x < n) (hκ : ∀ outs, Same (kyI keys) ins outs → Pw (kyI keys) outs → outs = ordP κ n) :
    Calls Tryz.prog 123 #[.slice A n cA, .slice K n cK] w fun e u => ∃ A' cA', e = .returned (.slice A' n cA') ∧ n ≤ cA' ∧ NumsAt .i64 u A' (ordP κ n) ∧ Below w.heap.size w u :=
  (sorted_any A K n cA n cK ins keys w hx hl hk hm hcA hn hn h64 hin).mono fun _ _ ⟨A', cA', outs, h1, h2, h3, h4, h5, h6⟩ => ⟨A', cA', by rw [h1, hl], by rw [hl] at h2; exact h2, by rw [hκ outs h4 h5] at h3; exact h3, h6⟩

theorem sorted_plcs (A K : Option Addr) (n cA cK : Nat) (keys : List Int) (w : World) (hx : NumsAt .i64 w A (plcs n)) (hk : NumsAt .i64 w K keys) (hm : keys.length = n) (hcA : n ≤ cA) (hn : n ≤ 1000000) (h64 : I64s keys) :
    Calls Tryz.prog 123 #[.slice A n cA, .slice K n cK] w fun e u => ∃ A' cA', e = .returned (.slice A' n cA') ∧ n ≤ cA' ∧ NumsAt .i64 u A' (ordP (kyI keys) n) ∧ Below w.heap.size w u :=
  sorted_all A K n cA cK (plcs n) keys (kyI keys) w hx hk hm hcA hn h64 (plcs_length n) (fun _ hx => plcs_mem.1 hx) (fun _ h1 h2 => isort_uniq h1 h2)

theorem eq_closure (kb : Nat) (K : Option Addr) (n cK : Nat) (keys : List Int) (w : World) (h : KX w kb K n cK keys u) : EqC32 u (.pointer (some ⟨kb, 0, none⟩)) n (kyI keys) := by
  intro v hv x y hx hy
  have hK := h.kept hv
  have c0 := hK.c0
  obtain ⟨bb, off, hAe, -, hcx⟩ := num_at hK.nums (i := x) (by rw [hK.len]; exact hx)
  obtain ⟨bb2, off2, hAe2, -, hcy⟩ := num_at hK.nums (i := y) (by rw [hK.len]; exact hy)
  subst hAe
  simp only [Option.some.injEq, Addr.mk.injEq, and_true] at hAe2
  obtain ⟨rfl, rfl⟩ := hAe2
  have e1 : kyI keys (x : Int) = keys.getD x 0 := by unfold kyI; rw [Int.toNat_natCast]
  have e2 : kyI keys (y : Int) = keys.getD y 0 := by unfold kyI; rw [Int.toNat_natCast]
  rw [e1, e2]
  clear hK e1 e2 h hv
  generalize keys.getD x 0 = a at *
  generalize keys.getD y 0 = b at *
  have q1 : (x : Int) < (n : Int) := by omega
  have q2 : (y : Int) < (n : Int) := by omega
  have q3 : (0 : Int) ≤ (x : Int) := by omega
  have q4 : (0 : Int) ≤ (y : Int) := by omega
  go_enter Tryz.func126, Tryz.ntmps126
  go_wp2
  go_quiet (fail)
  go_wp2
  go_ret
  refine ⟨?_, _, rfl⟩
  show Ending.returned (.bool (a == b)) = _
  rfl

/-- What Ranks tells. -/
theorem ranks_any (K : Option Addr) (n cK : Nat) (keys : List Int) (w : World) (hk : NumsAt .i64 w K keys) (hl : keys.length = n) (hn : n ≤ 1000000) (h64 : I64s keys) :
    Calls Tryz.prog 91 #[.slice K n cK] w (RankEnd w (kyI keys) n) := by
  have hA0 := KX.new w K n cK keys hk hl
  obtain ⟨kb, hkb⟩ : ∃ kb, kb = w.heap.size := ⟨_, rfl⟩
  obtain ⟨w0, hw0⟩ : ∃ w0, w0 = w.alloc (.cells #[.slice K n cK] 38) := ⟨_, rfl⟩
  rw [← hw0] at hA0
  have hA : KX w kb K n cK keys w0 := by rw [hkb]; exact hA0
  have pl := fun u (h : KX w kb K n cK keys u) => (places_nums n u hn).mono fun e u' h1 => (show ∃ D, e = .returned (.slice (some ⟨D, 0, none⟩) n n) ∧ NumsAt .i64 u' (some ⟨D, 0, none⟩) (plcs n) ∧ KX w kb K n cK keys u' by obtain ⟨D, e1, e2, e3⟩ := h1; exact ⟨D, e1, e2, h.kept e3⟩)
  have so := fun u D (h : KX w kb K n cK keys u) (h2 : NumsAt .i64 u (some ⟨D, 0, none⟩) (plcs n)) => (sorted_plcs (some ⟨D, 0, none⟩) K n n cK keys u h2 h.nums h.len (Nat.le_refl _) hn h64).mono fun e u' h1 => (show ∃ A' cA', e = .returned (.slice A' n cA') ∧ NumsAt .i64 u' A' (ordP (kyI keys) n) ∧ KX w kb K n cK keys u' by obtain ⟨A', cA', e1, -, e2, e3⟩ := h1; exact ⟨A', cA', e1, e2, h.kept e3⟩)
  have PL := Lib.hid pl
  have SO := Lib.hid so
  have HA0 := Lib.hid hA
  clear hk hl pl so hA0
  go_enter Tryz.func91, Tryz.ntmps91
  go_upto_region 1 with fail
  rw [← hw0, ← hkb]
  clear hkb hw0
  have c0 := hA.c0
  have hA := HA0
  go_region_held3 (fun w' => w'.cell? ⟨kb, 0, none⟩ = some (.slice K n cK))
    (first
      | go_keep
      | (with_reducible exact hA.out.c0))
    (first
      | (go_at_call 124; (with_reducible refine (PL.out _ hA.out.drew).mono ?_); rintro e u ⟨D, rfl, hP, hA'⟩; have hA := Lib.hid hA'; have HP := Lib.hid hP; clear hA' hP)
      | (go_at_call 124; (with_reducible refine (PL.out _ hA.out).mono ?_); rintro e u ⟨D, rfl, hP, hA'⟩; have hA := Lib.hid hA'; have HP := Lib.hid hP; clear hA' hP)
      | (go_at_call 123; (with_reducible refine (SO.out _ _ hA.out HP.out).mono ?_); rintro e u ⟨A', cA', rfl, hP, hA'⟩; have hA := Lib.hid hA'; have HQ := Lib.hid hP; clear hA' hP))
  all_goals
    have hr := ranked32_any A' n cA' (kyI keys) (.pointer (some ⟨kb, 0, none⟩)) u HQ.out hn (eq_closure kb K n cK keys w hA.out)
    have HR := Lib.hid hr
    clear hr
    go_wp2_with fail
    (with_reducible refine HR.out.mono ?_)
    rintro e u2 ⟨D2, rfl, h1, h2⟩
    have HF := Lib.hid (And.intro h1 (hA.out.bel.trans (h2.mono hA.out.bel.size)))
    clear h1 h2
    go_wp2
    go_ret
    exact ⟨D2, rfl, HF.out.1, HF.out.2⟩

end Go.Proofs.YtpnjccomngdblaaGreat
end

section
/- The contracts of Pairs and Stable. -/
set_option maxRecDepth 100000
namespace Go.Proofs.YtpnjccomngdblaaGreat
open Go.RowKit
open M
attribute [local go_sem ↓] Go.wp_at_zero Go.wp_at_succ

/-- A pair's key. -/
def kyP (a b : List Int) (x : Int) : Int := kyI a x * 18446744073709551616 + (kyI b x + 9223372036854775808)

theorem Same.add {α : Type} {κ : α → Int} {xs ys : List α} (h : Same κ xs ys) (c : Int) : Same (fun x => κ x + c) xs ys := by
  intro k
  have e : ∀ l : List α, l.filter (fun x => decide (κ x + c = k)) = l.filter (fun x => decide (κ x = k - c)) := fun l => List.filter_congr fun x _ => by rw [decide_eq_decide]; omega
  rw [e, e, h]
theorem Pw.add {α : Type} {κ : α → Int} {ys : List α} (h : Pw κ ys) (c : Int) : Pw (fun x => κ x + c) ys := h.imp fun {a b} h => by show κ a + c ≤ κ b + c; omega

theorem ky_in {l : List Int} (h64 : I64s l) {x : Int} (hx : 0 ≤ x ∧ x < l.length) : -9223372036854775808 ≤ kyI l x ∧ kyI l x ≤ 9223372036854775807 := h64 _ (memI l x.toNat (by omega))

theorem pair_uniq {a b : List Int} {n : Nat} (hb : b.length = n) (h64 : I64s b) {outs : List Int} (h1 : Same (kyI a) (ordP (kyI b) n) outs) (h2 : Pw (kyI a) outs) : outs = ordP (kyP a b) n := by
  have := lsd (κ := fun x => kyI b x + 9223372036854775808) (δ := kyI a) (B := 18446744073709551616) (xs := plcs n) (fun x hx => by
    have := ky_in h64 (x := x) (by rw [hb]; exact plcs_mem.1 hx)
    show 0 ≤ kyI b x + 9223372036854775808 ∧ kyI b x + 9223372036854775808 < 18446744073709551616
    omega) ((ordP_same _ _).add _) ((ordP_pw _ _).add _) h1 h2
  exact isort_uniq this.1 this.2

theorem pair_eq {a b : List Int} {n : Nat} (hb : b.length = n) (h64 : I64s b) {x y : Nat} (hx : x < n) (hy : y < n) : kyP a b x = kyP a b y ↔ a.getD x 0 = a.getD y 0 ∧ b.getD x 0 = b.getD y 0 := by
  have h1 := ky_in h64 (x := (x : Int)) (by omega)
  have h2 := ky_in h64 (x := (y : Int)) (by omega)
  unfold kyP
  unfold kyI at h1 h2 ⊢
  rw [Int.toNat_natCast] at h1 h2 ⊢
  rw [Int.toNat_natCast]
  omega

/-- Two lists in their boxes. -/
structure PrX (w : World) (ka kb : Nat) (A B : Option Addr) (n ca cb : Nat) (a b : List Int) (u : World) : Prop where
  xa : KX w ka A n ca a u
  xb : KX w kb B n cb b u
variable {w u u' : World} {ka kb : Nat} {A B : Option Addr} {n ca cb : Nat} {a b : List Int}
theorem PrX.kept (h : PrX w ka kb A B n ca cb a b u) (hb : Below u.heap.size u u') : PrX w ka kb A B n ca cb a b u' := ⟨h.xa.kept hb, h.xb.kept hb⟩
theorem PrX.drew (h : PrX w ka kb A B n ca cb a b u) : PrX w ka kb A B n ca cb a b u.drew := ⟨h.xa.drew, h.xb.drew⟩

theorem eq_pair (h : PrX w ka kb A B n ca cb a b u) (h64 : I64s b) : EqC33 u (.pointer (some ⟨ka, 0, none⟩)) (.pointer (some ⟨kb, 0, none⟩)) n (kyP a b) := by
  intro v hv x y hx hy
  have hP := h.kept hv
  have c0 := hP.xa.c0
  have d0 := hP.xb.c0
  obtain ⟨bb, off, hAe, -, hax⟩ := num_at hP.xa.nums (i := x) (by rw [hP.xa.len]; exact hx)
  obtain ⟨bb2, off2, hAe2, -, hay⟩ := num_at hP.xa.nums (i := y) (by rw [hP.xa.len]; exact hy)
  obtain ⟨cc, cof, hBe, -, hbx⟩ := num_at hP.xb.nums (i := x) (by rw [hP.xb.len]; exact hx)
  obtain ⟨cc2, cof2, hBe2, -, hby⟩ := num_at hP.xb.nums (i := y) (by rw [hP.xb.len]; exact hy)
  have hpe := pair_eq (a := a) hP.xb.len h64 hx hy
  subst hAe hBe
  simp only [Option.some.injEq, Addr.mk.injEq, and_true] at hAe2 hBe2
  obtain ⟨rfl, rfl⟩ := hAe2
  obtain ⟨rfl, rfl⟩ := hBe2
  have HP := Lib.hid hpe
  clear hP h hv hpe
  generalize a.getD x 0 = a0 at *
  generalize a.getD y 0 = a1 at *
  generalize b.getD x 0 = b0 at *
  generalize b.getD y 0 = b1 at *
  have q1 : (x : Int) < (n : Int) := by omega
  have q2 : (y : Int) < (n : Int) := by omega
  have q3 : (0 : Int) ≤ (x : Int) := by omega
  have q4 : (0 : Int) ≤ (y : Int) := by omega
  by_cases hab : a0 = a1
  · subst hab
    have qa : (a0 == a0) = true := by simp
    go_enter Tryz.func154, Tryz.ntmps154
    go_wp2
    go_quiet (fail)
    go_wp2
    go_ret
    refine ⟨?_, _, rfl⟩
    show Ending.returned (.bool (b0 == b1)) = _
    congr 2
    have := HP.out
    by_cases e : b0 = b1
    · rw [decide_eq_true (this.2 ⟨trivial, e⟩)]; simpa using e
    · rw [decide_eq_false (fun h => e (this.1 h).2)]; simpa using e
  · have qa : (a0 == a1) = false := by simpa using hab
    go_enter Tryz.func154, Tryz.ntmps154
    go_wp2
    go_quiet (fail)
    go_wp2
    go_ret
    refine ⟨?_, _, rfl⟩
    rw [decide_eq_false (fun h => hab (HP.out.1 h).1)]; rfl

/-- What Pairs tells. -/
def PairsEnd (w : World) (a b : List Int) (n : Nat) (e : Ending) (u : World) : Prop :=
  ∃ D, e = .returned (.tuple #[.slice (some ⟨D, 0, none⟩) n n, .int .i64 0]) ∧ NumsAt .i64 u (some ⟨D, 0, none⟩) (rnkL (kyP a b) n) ∧ Below w.heap.size w u

theorem pairs_no (A B : Option Addr) (n m ca cb : Nat) (w : World) (h : n ≠ m) : Calls Tryz.prog 131 #[.slice A n ca, .slice B m cb] w fun e u => e = .returned (.tuple #[.slice none 0 0, .int .i64 1]) ∧ Below w.heap.size w u := by
  have q : ((n : Int) == (m : Int)) = false := by simp; omega
  have hne : (n : Int) ≠ (m : Int) := by omega
  go_enter Tryz.func131, Tryz.ntmps131
  go_wp2
  go_ret2
  exact ⟨rfl, boxed2 _ _ _⟩

theorem pairs_any (A B : Option Addr) (n ca cb : Nat) (a b : List Int) (w : World) (ha : NumsAt .i64 w A a) (hb : NumsAt .i64 w B b) (hla : a.length = n) (hlb : b.length = n) (hn : n ≤ 1000000) (h64a : I64s a) (h64b : I64s b) :
    Calls Tryz.prog 131 #[.slice A n ca, .slice B n cb] w (PairsEnd w a b n) := by
  have hA0 := KX.new w A n ca a ha hla
  obtain ⟨w0, hw0⟩ : ∃ w0, w0 = w.alloc (.cells #[.slice A n ca] 38) := ⟨_, rfl⟩
  obtain ⟨ka, hka⟩ : ∃ ka, ka = w.heap.size := ⟨_, rfl⟩
  obtain ⟨kb, hkb⟩ : ∃ kb, kb = w.heap.size + 1 := ⟨_, rfl⟩
  obtain ⟨w1, hw1⟩ : ∃ w1, w1 = w0.alloc (.cells #[.slice B n cb] 38) := ⟨_, rfl⟩
  rw [← hw0, ← hka] at hA0
  have hs0 : w0.heap.size = kb := by rw [hw0, hkb]; simp
  have hB0 := KX.new w0 B n cb b (hb.kept hA0.bel) hlb
  rw [hs0, ← hw1] at hB0
  have hb1 : Below w0.heap.size w0 w1 := by rw [hw1]; exact (Below.refl _ _).alloc (Nat.le_refl _) _
  have hA : PrX w ka kb A B n ca cb a b w1 := ⟨hA0.kept hb1, ⟨hB0.c0, hB0.nums, hB0.len, hA0.bel.trans (hb1.mono hA0.bel.size)⟩⟩
  have pl := fun u (h : PrX w ka kb A B n ca cb a b u) => (places_nums n u hn).mono fun e u' h1 => (show ∃ D, e = .returned (.slice (some ⟨D, 0, none⟩) n n) ∧ NumsAt .i64 u' (some ⟨D, 0, none⟩) (plcs n) ∧ PrX w ka kb A B n ca cb a b u' by obtain ⟨D, e1, e2, e3⟩ := h1; exact ⟨D, e1, e2, h.kept e3⟩)
  have so := fun u D (h : PrX w ka kb A B n ca cb a b u) (h2 : NumsAt .i64 u (some ⟨D, 0, none⟩) (plcs n)) => (sorted_plcs (some ⟨D, 0, none⟩) B n n cb b u h2 h.xb.nums h.xb.len (Nat.le_refl _) hn h64b).mono fun e u' h1 => (show ∃ A' cA', e = .returned (.slice A' n cA') ∧ n ≤ cA' ∧ NumsAt .i64 u' A' (ordP (kyI b) n) ∧ PrX w ka kb A B n ca cb a b u' by obtain ⟨A', cA', e1, e4, e2, e3⟩ := h1; exact ⟨A', cA', e1, e4, e2, h.kept e3⟩)
  have so2 := fun u D c (h : PrX w ka kb A B n ca cb a b u) (h2 : NumsAt .i64 u D (ordP (kyI b) n)) (hc : n ≤ c) => (sorted_all D A n c ca (ordP (kyI b) n) a (kyP a b) u h2 h.xa.nums h.xa.len hc hn h64a (ordP_length _ _) (fun _ hx => ordP_mem.1 hx) (fun _ h3 h4 => pair_uniq hlb h64b h3 h4)).mono fun e u' h1 => (show ∃ A' cA', e = .returned (.slice A' n cA') ∧ NumsAt .i64 u' A' (ordP (kyP a b) n) ∧ PrX w ka kb A B n ca cb a b u' by obtain ⟨A', cA', e1, e4, e2, e3⟩ := h1; exact ⟨A', cA', e1, e2, h.kept e3⟩)
  have PL := Lib.hid pl
  have SO := Lib.hid so
  have SO2 := Lib.hid so2
  have HA0 := Lib.hid hA
  clear ha hb hla hlb pl so so2 hA0 hB0 hb1
  go_enter Tryz.func131, Tryz.ntmps131
  go_upto_region 1 with fail
  rw [← hw0, ← hw1, ← hkb, ← hka]
  have c0 := hA.xa.c0
  have d0 := hA.xb.c0
  clear hw0 hka hkb hw1 hs0 hA
  have hA := HA0
  go_wp2
  go_region_held3 (fun w' => w'.cell? ⟨ka, 0, none⟩ = some (.slice A n ca) ∧ w'.cell? ⟨kb, 0, none⟩ = some (.slice B n cb))
    (first
      | go_keep
      | (with_reducible exact ⟨hA.out.xa.c0, hA.out.xb.c0⟩))
    (first
      | (go_at_call 124; (with_reducible refine (PL.out _ hA.out.drew).mono ?_); rintro e u ⟨D, rfl, hP, hA'⟩; have hA := Lib.hid hA'; have HP := Lib.hid hP; clear hA' hP)
      | (go_at_call 124; (with_reducible refine (PL.out _ hA.out).mono ?_); rintro e u ⟨D, rfl, hP, hA'⟩; have hA := Lib.hid hA'; have HP := Lib.hid hP; clear hA' hP)
      | (go_at_call 123; (with_reducible refine (SO.out _ _ hA.out HP.out).mono ?_); rintro e u ⟨A', cA', rfl, hc', hP, hA'⟩; have hA := Lib.hid hA'; have HQ := Lib.hid (And.intro hP hc'); clear hA' hP hc')
      | (go_at_call 123; (with_reducible refine (SO2.out _ _ _ hA.out HQ.out.1 HQ.out.2).mono ?_); rintro e u ⟨A2, cA2, rfl, hP, hA'⟩; have hA := Lib.hid hA'; have HR := Lib.hid hP; clear hA' hP))
  all_goals
    have hr := ranked33_any A2 n cA2 (kyP a b) (.pointer (some ⟨ka, 0, none⟩)) (.pointer (some ⟨kb, 0, none⟩)) u HR.out hn (eq_pair hA.out h64b)
    have HRR := Lib.hid hr
    clear hr
    go_wp2_with fail
    (with_reducible refine HRR.out.mono ?_)
    rintro e u2 ⟨D2, rfl, h1, h2⟩
    have HF := Lib.hid (And.intro h1 (hA.out.xa.bel.trans (h2.mono hA.out.xa.bel.size)))
    clear h1 h2
    go_wp2
    go_ret2
    exact ⟨D2, rfl, HF.out.1, HF.out.2⟩

/-- Keys that may be. -/
def MayS (keys : List Int) (size : Int) : Prop := 1 ≤ size ∧ size ≤ 1048576 ∧ ∀ x ∈ keys, 0 ≤ x ∧ x < size
def StabEnd (w : World) (keys : List Int) (size : Int) (n : Nat) (e : Ending) (u : World) : Prop :=
  Below w.heap.size w u ∧ ((MayS keys size ∧ ∃ A cA, n ≤ cA ∧ e = .returned (.tuple #[.slice A n cA, .int .i64 0]) ∧ NumsAt .i64 u A (ordP (kyI keys) n)) ∨ (¬ MayS keys size ∧ e = .returned (.tuple #[.slice none 0 0, .int .i64 1])))

end Go.Proofs.YtpnjccomngdblaaGreat
end

section
/- The chapter's examples: awake; the contracts of few and of the document's Has and All. -/
set_option maxRecDepth 100000
namespace Go.Proofs.YtpnjccomngdblaaGreat
open Go.RowKit
open M
attribute [local go_sem ↓] Go.wp_at_zero Go.wp_at_succ

theorem nums_block (w : World) (cs : List Int) : NumsAt .i64 (w.alloc (.cells ((cs.map (Value.int .i64)).toArray) 3)) (some ⟨w.heap.size, 0, none⟩) cs := by
  refine .inr ⟨w.heap.size, 0, rfl, by simp, fun j hj => ?_⟩
  rw [cell_new _ _ _ _ _ rfl]
  simp [List.getD_eq_getElem?_getD, hj]
theorem al (w : World) (o : Obj) : Below w.heap.size w (w.alloc o) := (Below.refl _ _).alloc (Nat.le_refl _) _

theorem ex_stable : ordP (kyI [2, 0, 2, 1]) 4 = [1, 3, 0, 2] := by decide
theorem ex_ranks : rnkL (kyI [7, 5, 7, 9]) 4 = [1, 0, 1, 2] := by decide
theorem ex_pairs : rnkL (kyP [1, 0, 1] [4, 9, 3]) 3 = [2, 0, 1] := by decide

/-- Has it each number below its length? -/
def allB (l : List Int) : Bool := (plcs l.length).all fun x => decide (x ∈ l)
end Go.Proofs.YtpnjccomngdblaaGreat
end

section
/- Plain facts on orders: those of one key rise; numbers cut to 15; the loop of masks. -/
set_option maxRecDepth 100000
namespace Go.Proofs.YtpnjccomngdblaaGreat
open Go.RowKit
open M

theorem plcs_rise (n : Nat) : (plcs n).Pairwise (· < ·) := by
  unfold plcs
  rw [List.pairwise_map]
  exact List.pairwise_lt_range.imp fun h => by omega
/-- Those of one key stand as they stood. -/
theorem ordP_rise (κ : Int → Int) (n : Nat) {i j : Nat} (hij : i < j) (hj : j < n) : κ ((ordP κ n).getD i 0) < κ ((ordP κ n).getD j 0) ∨ (κ ((ordP κ n).getD i 0) = κ ((ordP κ n).getD j 0) ∧ (ordP κ n).getD i 0 < (ordP κ n).getD j 0) := by
  have h := pw_two (κ := fun x : Int => x) (ordP_pw κ n) (fun d => by
    rw [← ordP_same κ n d]
    exact ((plcs_rise n).imp (fun h => Int.le_of_lt h)).filter _)
  have hl := ordP_length κ n
  have h1 := List.pairwise_iff_getElem.1 h i j (by omega) (by omega) hij
  have h2 := List.pairwise_iff_getElem.1 (ordP_nodup κ n) i j (by omega) (by omega) hij
  have e1 : (ordP κ n).getD i 0 = (ordP κ n)[i]'(by omega) := by simp [List.getD_eq_getElem?_getD, List.getElem?_eq_getElem (show i < (ordP κ n).length by omega)]
  have e2 : (ordP κ n).getD j 0 = (ordP κ n)[j]'(by omega) := by simp [List.getD_eq_getElem?_getD, List.getElem?_eq_getElem (show j < (ordP κ n).length by omega)]
  rw [e1, e2]
  rcases h1 with h | ⟨h, h'⟩
  · exact .inl h
  · exact .inr ⟨h, by omega⟩
theorem ordP_all (κ : Int → Int) (n : Nat) : allB (ordP κ n) = true := by
  unfold allB
  rw [List.all_eq_true, ordP_length]
  intro x hx
  exact decide_eq_true (ordP_mem.2 (plcs_mem.1 hx))
theorem ordP_at (κ : Int → Int) (n : Nat) {i : Nat} (hi : i < n) : ∃ p : Nat, (ordP κ n).getD i 0 = (p : Int) ∧ p < n := by
  have hl := ordP_length κ n
  have hm : (ordP κ n).getD i 0 ∈ ordP κ n := by simp [List.getD_eq_getElem?_getD, hl, hi]
  have := ordP_mem.1 hm
  exact ⟨((ordP κ n).getD i 0).toNat, by omega, by omega⟩

theorem and15 (x : Int) : bits .and .i64 x 15 = x % 16 := and_mask x 4 (by omega)
/-- Numbers cut to 15. -/
def msk15 (xs : List Int) (k : Nat) : List Int := (xs.take k).map fun x => x % 16
theorem msk15_succ (xs : List Int) (k : Nat) (h : k < xs.length) : msk15 xs (k + 1) = msk15 xs k ++ [xs.getD k 0 % 16] := by
  unfold msk15
  rw [takeI_snoc xs k h, List.map_append]; rfl
theorem msk15_len (xs : List Int) (k : Nat) (h : k ≤ xs.length) : (msk15 xs k).length = k := by simp [msk15]; omega
theorem msk15_in (xs : List Int) (k : Nat) : ∀ x ∈ msk15 xs k, 0 ≤ x ∧ x < 16 := by
  intro x hx
  unfold msk15 at hx
  obtain ⟨y, -, rfl⟩ := List.mem_map.1 hx
  omega

end Go.Proofs.YtpnjccomngdblaaGreat
end

section
/- Plain facts on ranks: the lesser key has the lesser rank; no rank is left out; ranks of ranks are the ranks. The document's Select at 0. -/
set_option maxRecDepth 100000
namespace Go.Proofs.YtpnjccomngdblaaGreat
open Go.RowKit
open M

theorem nless_lt (κ : Int → Int) (n : Nat) {p : Nat} {v : Int} (hp : p < n) (h : κ p < v) : nless κ n (κ p) < nless κ n v := by
  have h1 := fst_one κ (κ p) n
  rw [if_pos ⟨p, hp, rfl⟩] at h1
  have h2 := filter_two (List.range n) (fun k : Nat => decide (κ k ≤ κ p) && fstB κ k) (fun k : Nat => decide (κ k < κ p) && fstB κ k) (fun k : Nat => decide (κ k = κ p) && fstB κ k) (fun k _ => by
    rw [← Bool.and_or_distrib_right]
    congr 1
    rw [← Bool.decide_or, decide_eq_decide]; omega) (fun k _ => by
    by_cases e : κ k = κ p
    · simp [e]
    · rw [decide_eq_false e]; simp)
  rw [h1] at h2
  have h3 : ((List.range n).filter fun k : Nat => decide (κ k ≤ κ p) && fstB κ k).length ≤ nless κ n v := by
    unfold nless
    rw [← List.countP_eq_length_filter, ← List.countP_eq_length_filter]
    apply List.countP_mono_left
    intro k _ hk
    simp only [Bool.and_eq_true, decide_eq_true_eq] at hk ⊢
    exact ⟨by omega, hk.2⟩
  unfold nless at h3 ⊢
  omega
theorem nless_iff (κ : Int → Int) (n : Nat) {p q : Nat} (hp : p < n) (hq : q < n) : (nless κ n (κ p) < nless κ n (κ q) ↔ κ p < κ q) ∧ (nless κ n (κ p) = nless κ n (κ q) ↔ κ p = κ q) := by
  rcases Int.lt_trichotomy (κ p) (κ q) with h | h | h
  · have := nless_lt κ n hp h
    constructor <;> constructor <;> intro _ <;> omega
  · rw [h]
    constructor <;> constructor <;> intro _ <;> first | omega | rfl
  · have := nless_lt κ n hq h
    constructor <;> constructor <;> intro _ <;> omega

theorem kyI_rnk (κ : Int → Int) (n : Nat) {p : Nat} (hp : p < n) : kyI (rnkL κ n) (p : Int) = ((nless κ n (κ p) : Nat) : Int) := by
  unfold kyI
  rw [Int.toNat_natCast, rnkL_at κ n p hp]

/-- Keys in one order have the same ranks. -/
theorem rnk_congr (κ κ' : Int → Int) (n : Nat) (h1 : ∀ p q : Nat, p < n → q < n → (κ p < κ q ↔ κ' p < κ' q)) : rnkL κ n = rnkL κ' n := by
  have h2 : ∀ p q : Nat, p < n → q < n → (κ p = κ q ↔ κ' p = κ' q) := fun p q hp hq => by
    have a := h1 p q hp hq
    have b := h1 q p hq hp
    omega
  unfold rnkL
  apply List.map_congr_left
  intro p hp
  have hp' := List.mem_range.1 hp
  congr 1
  unfold nless
  congr 1
  apply List.filter_congr
  intro k hk
  have hk' := List.mem_range.1 hk
  have e1 : decide (κ k < κ p) = decide (κ' k < κ' p) := by rw [decide_eq_decide]; exact h1 k p hk' hp'
  have e2 : fstB κ k = fstB κ' k := by
    unfold fstB
    rw [Bool.eq_iff_iff, List.all_eq_true, List.all_eq_true]
    constructor
    · intro h j hj
      have hj' := List.mem_range.1 hj
      have := h j hj
      simp only [decide_eq_true_eq] at this ⊢
      exact fun e => this ((h2 j k (by omega) hk').2 e)
    · intro h j hj
      have hj' := List.mem_range.1 hj
      have := h j hj
      simp only [decide_eq_true_eq] at this ⊢
      exact fun e => this ((h2 j k (by omega) hk').1 e)
  rw [e1, e2]
theorem rnk_twice (κ : Int → Int) (n : Nat) : rnkL (kyI (rnkL κ n)) n = rnkL κ n := by
  apply rnk_congr
  intro p q hp hq
  rw [kyI_rnk κ n hp, kyI_rnk κ n hq]
  have := (nless_iff κ n hp hq).1
  omega

theorem nless_le (κ : Int → Int) (n : Nat) (v : Int) : nless κ n v ≤ n := Nat.le_trans (List.length_filter_le _ _) (by rw [List.length_range]; exact Nat.le_refl _)

/-- No rank is left out. -/
theorem rnk_dense (κ : Int → Int) (n : Nat) {p v : Nat} (hp : p < n) (hv : v ≤ nless κ n (κ p)) : ∃ q : Nat, q < n ∧ nless κ n (κ q) = v := by
  have key : ∀ i, i < n → ∀ v, v ≤ rkI κ (ordP κ n) i → ∃ j, j < n ∧ rkI κ (ordP κ n) j = v := by
    intro i
    induction i with
    | zero => intro hi v hv; exact ⟨0, hi, by have h0 : rkI κ (ordP κ n) 0 = 0 := rfl; omega⟩
    | succ i ih =>
      intro hi v hv
      by_cases e : v ≤ rkI κ (ordP κ n) i
      · exact ih (by omega) v e
      · refine ⟨i + 1, hi, ?_⟩
        have hs : rkI κ (ordP κ n) (i + 1) = rkI κ (ordP κ n) i + if κ ((ordP κ n).getD i 0) = κ ((ordP κ n).getD (i + 1) 0) then 0 else 1 := rfl
        split at hs <;> omega
  have hm : (p : Int) ∈ ordP κ n := ordP_mem.2 (by omega)
  obtain ⟨i, hi, e⟩ := List.getElem_of_mem hm
  rw [ordP_length] at hi
  have e2 : (ordP κ n).getD i 0 = (p : Int) := by simp [List.getD_eq_getElem?_getD, ordP_length, hi, e]
  have h1 := rkI_less κ n i hi
  rw [e2] at h1
  obtain ⟨j, hj, h2⟩ := key i hi v (by omega)
  obtain ⟨q, hq, hqn⟩ := ordP_at κ n hj
  have h3 := rkI_less κ n j hj
  rw [hq] at h3
  exact ⟨q, hqn, by omega⟩

/-- Keys in order: they stand so already. -/
theorem ordP_sorted (l : List Int) (h : ∀ i j, i ≤ j → j < l.length → l.getD i 0 ≤ l.getD j 0) : ordP (kyI l) l.length = plcs l.length := by
  symm
  refine isort_uniq (Same.refl _ _) ?_
  refine List.Pairwise.imp_of_mem (fun {a b} ha hb hab => ?_) (plcs_rise l.length)
  have h1 := plcs_mem.1 ha
  have h2 := plcs_mem.1 hb
  exact h a.toNat b.toNat (by omega) (by omega)
/-- The keys in order. -/
def srtL (m : List Int) (k : Nat) : List Int := ((ordP (kyI m) m.length).take k).map (kyI m)
theorem srtL_succ (m : List Int) (k : Nat) (h : k < m.length) : srtL m (k + 1) = srtL m k ++ [kyI m ((ordP (kyI m) m.length).getD k 0)] := by
  unfold srtL
  rw [takeI_snoc _ k (by rw [ordP_length]; exact h), List.map_append]; rfl
theorem srtL_len (m : List Int) (k : Nat) (h : k ≤ m.length) : (srtL m k).length = k := by
  unfold srtL
  rw [List.length_map, List.length_take, ordP_length]; omega
theorem srtL_at (m : List Int) (i : Nat) (h : i < m.length) : (srtL m m.length).getD i 0 = kyI m ((ordP (kyI m) m.length).getD i 0) := by
  unfold srtL
  rw [List.take_of_length_le (by rw [ordP_length]; exact Nat.le_refl _)]
  have : i < (ordP (kyI m) m.length).length := by rw [ordP_length]; exact h
  simp [List.getD_eq_getElem?_getD, this]
theorem srtL_mem (m : List Int) (k : Nat) : ∀ x ∈ srtL m k, x ∈ m := by
  intro x hx
  unfold srtL at hx
  obtain ⟨y, hy, rfl⟩ := List.mem_map.1 hx
  have := ordP_mem.1 (List.mem_of_mem_take hy)
  exact memI m y.toNat (by omega)
theorem srtL_ord (m : List Int) : ordP (kyI (srtL m m.length)) m.length = plcs m.length := by
  have hl := srtL_len m m.length (Nat.le_refl _)
  have := ordP_sorted (srtL m m.length) (fun i j hij hj => by
    rw [hl] at hj
    rw [srtL_at m i (by omega), srtL_at m j hj]
    exact pw_at (ordP_pw (kyI m) m.length) hij (by rw [ordP_length]; exact hj))
  rw [hl] at this
  exact this

end Go.Proofs.YtpnjccomngdblaaGreat
end

section
/- The document's Stable. -/
set_option maxRecDepth 100000
namespace Go.Proofs.YtpnjccomngdblaaGreat
open Go.RowKit
open M
attribute [local go_sem ↓] Go.wp_at_zero Go.wp_at_succ

theorem NumsAt.drop {k : IntKind} {w : World} {b off : Nat} {xs : List Int} (h : NumsAt k w (some ⟨b, off, none⟩) xs) (n : Nat) : NumsAt k w (some ⟨b, off + n, none⟩) (xs.drop n) := by
  rcases h with h | ⟨b', off', h1, h2, h3⟩
  · subst h; exact .inl (by simp)
  · simp only [Option.some.injEq, Addr.mk.injEq, and_true] at h1
    obtain ⟨rfl, rfl⟩ := h1
    refine .inr ⟨b, off + n, rfl, h2, fun j hj => ?_⟩
    simp only [List.length_drop] at hj
    rw [Nat.add_assoc, h3 (n + j) (by omega)]
    simp [List.getD_eq_getElem?_getD]

theorem NumsAt.kp {k : IntKind} {X : Nat → Prop} {w w' : World} {a : Option Addr} {xs : List Int} (h : NumsAt k w a xs) (hb : Kp X w w') (hx : ∀ b o, a = some ⟨b, o, none⟩ → ¬ X b) : NumsAt k w' a xs := by
  rcases h with h | ⟨b, off, h1, h2, h3⟩
  · exact .inl h
  · refine .inr ⟨b, off, h1, Nat.lt_of_lt_of_le h2 hb.size, fun j hj => ?_⟩
    rw [hb.cell (p := ⟨b, off + j, none⟩) h2 (hx b off h1)]
    exact h3 j hj

/-- A row l of the call's own that grows; beside it the numbers p2, at place t of the block g. -/
structure IN (w : World) (g t : Nat) (v : Value) (l p2 : List Int) (u : World) : Prop where
  own : u.ownsRow w.heap.size 3 1 v l.length (l.map (Value.int .i64))
  src : NumsAt .i64 u (some ⟨g, t, none⟩) p2
  ne : v.ownBlock ≠ some g
  glt : g < u.heap.size
  bel : Below w.heap.size w u

theorem IN.kept {w u u' : World} {g t : Nat} {v : Value} {l p2 : List Int} (h : IN w g t v l p2 u) (hb : Below u.heap.size u u') : IN w g t v l p2 u' :=
  ⟨own_kept h.own hb, h.src.kept hb, h.ne, Nat.lt_of_lt_of_le h.glt hb.size, h.bel.trans (hb.mono h.bel.size)⟩

theorem IN.alloc {w u : World} {g t : Nat} {v : Value} {l p2 : List Int} (h : IN w g t v l p2 u) (o : Obj) : IN w g t v l p2 (u.alloc o) := h.kept ((Below.refl _ _).alloc (Nat.le_refl _) _)

theorem IN.app {w u u' : World} {g t : Nat} {v v' : Value} {l l' p2 : List Int} (h : IN w g t v l p2 u) (hown : u'.ownsRow w.heap.size 3 1 v' l'.length (l'.map (Value.int .i64))) (hg : u.grownBy u' v.ownBlock) (hat : v'.ownBlock = v.ownBlock ∨ v'.ownBlock = some u.heap.size) : IN w g t v' l' p2 u' := by
  have hk : Kp (fun k => v.ownBlock = some k) u u' := (Kp.refl _ u).grown hg (fun k hk _ => hk)
  have hgl := h.glt
  refine ⟨hown, h.src.kp hk (fun b o e ev => ?_), ?_, Nat.lt_of_lt_of_le h.glt hk.size, h.bel.trans (hk.toBelow h.bel.size (fun k hk e => by have := (h.own.lt k e).1; omega))⟩
  · simp only [Option.some.injEq, Addr.mk.injEq, and_true] at e
    exact h.ne (by rw [e.1]; exact ev)
  · intro e
    rcases hat with e2 | e2
    · exact h.ne (e2 ▸ e)
    · rw [e2] at e; simp at e; omega

theorem IN.start {w u : World} {g t : Nat} {p2 : List Int} (hs : NumsAt .i64 u (some ⟨g, t, none⟩) p2) (hg : g < u.heap.size) (hb : Below w.heap.size w u) : IN w g t (.slice none 0 0) [] p2 u :=
  ⟨World.ownsRow_nil _ _ _ _, hs, fun e => by simp [Value.ownBlock] at e, hg, hb⟩

theorem own_cases {w : World} {base : Nat} {v : Value} {n : Nat} {xs : List Value} (h : w.ownsRow base 3 1 v n xs) : (v = .slice none 0 0 ∧ n = 0) ∨ ∃ g cap, v = .slice (some ⟨g, 0, none⟩) n cap ∧ n ≤ cap ∧ cap ≤ maxLen := by
  obtain ⟨h1, h2⟩ := h
  rcases h2 with ⟨rfl, hn⟩ | ⟨g, cap, cur, rfl, hg, hh, hc1, hc2, hc3, hc4⟩
  · exact .inl ⟨rfl, hn⟩
  · exact .inr ⟨g, cap, rfl, hc1, hc2⟩


theorem plcs_succ (i : Nat) : plcs (i + 1) = plcs i ++ [(i : Int)] := by
  unfold plcs
  rw [List.range_succ, List.map_append]; rfl
/-- A place is put behind those whose keys are not greater. -/
theorem ordP_put (κ : Int → Int) (i k : Nat) (hk : k ≤ i) (h1 : ∀ j, k ≤ j → j < i → κ i < κ ((ordP κ i).getD j 0)) (h2 : 0 < k → κ ((ordP κ i).getD (k - 1) 0) ≤ κ i) :
    ordP κ (i + 1) = (ordP κ i).take k ++ [(i : Int)] ++ (ordP κ i).drop k := by
  have hl := ordP_length κ i
  have hd : ∀ x ∈ (ordP κ i).drop k, κ i < κ x := fun x hx => by
    obtain ⟨j, hj, e⟩ := List.getElem_of_mem hx
    rw [List.length_drop] at hj
    have := h1 (k + j) (by omega) (by omega)
    rw [List.getElem_drop] at e
    simp only [List.getD_eq_getElem?_getD, List.getElem?_eq_getElem (show k + j < (ordP κ i).length by omega), Option.getD_some, e] at this
    exact this
  have ht : ∀ x ∈ (ordP κ i).take k, κ x ≤ κ i := fun x hx => by
    obtain ⟨j, hj, e⟩ := List.getElem_of_mem hx
    rw [List.length_take] at hj
    have hp := pw_at (ordP_pw κ i) (show j ≤ k - 1 by omega) (by omega)
    have := h2 (by omega)
    rw [List.getElem_take] at e
    simp only [List.getD_eq_getElem?_getD, List.getElem?_eq_getElem (show j < (ordP κ i).length by omega), Option.getD_some, e] at hp
    simp only [List.getD_eq_getElem?_getD] at this
    omega
  symm
  refine isort_uniq ?_ ?_
  · rw [plcs_succ]
    have s1 : Same κ (plcs i ++ [(i : Int)]) (ordP κ i ++ [(i : Int)]) := (ordP_same κ i).app (Same.refl _ _)
    refine s1.trans ?_
    conv => lhs; rw [← List.take_append_drop k (ordP κ i)]
    rw [List.append_assoc, List.append_assoc]
    refine (Same.refl κ _).app (Same.swap ?_)
    intro x hx y hy
    have := hd x hx
    simp only [List.mem_singleton] at hy
    subst hy
    omega
  · unfold Pw
    rw [List.append_assoc, List.pairwise_append]
    have hp := ordP_pw κ i
    unfold Pw at hp
    refine ⟨hp.sublist (List.take_sublist _ _), ?_, ?_⟩
    · rw [List.singleton_append, List.pairwise_cons]
      exact ⟨fun x hx => Int.le_of_lt (hd x hx), hp.sublist (List.drop_sublist _ _)⟩
    · intro x hx y hy
      have hx' := ht x hx
      rcases List.mem_append.1 hy with h | h
      · simp only [List.mem_singleton] at h; subst h; exact hx'
      · have := hd y h; omega

end Go.Proofs.YtpnjccomngdblaaGreat
end

section
/- The contract of Inverse. -/
set_option maxRecDepth 100000
namespace Go.Proofs.YtpnjccomngdblaaGreat
open Go.RowKit
open M
attribute [local go_sem ↓] Go.wp_at_zero Go.wp_at_succ

theorem nodup_len : ∀ {l1 l2 : List Int}, l1.Nodup → (∀ x ∈ l1, x ∈ l2) → l1.length ≤ l2.length := by
  intro l1
  induction l1 with
  | nil => intro l2 _ _; exact Nat.zero_le _
  | cons a t ih =>
    intro l2 hn hs
    rw [List.nodup_cons] at hn
    have ha : a ∈ l2 := hs a (by simp)
    have h1 := ih (l2 := l2.erase a) hn.2 (fun x hx => (List.mem_erase_of_ne (fun e : x = a => hn.1 (by rw [← e]; exact hx))).2 (hs x (by simp [hx])))
    have h2 := List.length_erase_of_mem ha
    have h3 := List.length_pos_of_mem ha
    simp only [List.length_cons]
    omega
theorem allB_iff {p : List Int} : allB p = true ↔ ∀ x ∈ plcs p.length, x ∈ p := by
  unfold allB
  rw [List.all_eq_true]
  exact ⟨fun h x hx => by simpa using h x hx, fun h x hx => by simpa using h x hx⟩
/-- A number that is none, or was there before, leaves another one out. -/
theorem all_bad {p : List Int} {i : Nat} (hi : i < p.length) (h : (p.getD i 0 < 0 ∨ (p.length : Int) ≤ p.getD i 0) ∨ ∃ j, j < i ∧ p.getD j 0 = p.getD i 0) : allB p = false := by
  rw [← Bool.not_eq_true, allB_iff]
  intro hall
  have hsp : p = p.take i ++ p.getD i 0 :: p.drop (i + 1) := by
    rw [List.getD_eq_getElem?_getD, List.getElem?_eq_getElem hi, Option.getD_some]
    conv => lhs; rw [← List.take_append_drop i p, List.drop_eq_getElem_cons hi]
  have key : ∀ x ∈ plcs p.length, x ∈ p.take i ++ p.drop (i + 1) := by
    intro x hx
    have h1 := hall x hx
    rw [hsp] at h1
    rcases List.mem_append.1 h1 with h2 | h2
    · exact List.mem_append.2 (.inl h2)
    · rcases List.mem_cons.1 h2 with h3 | h3
      · have h4 := plcs_mem.1 hx
        rcases h with h | ⟨j, hj, e⟩
        · omega
        · refine List.mem_append.2 (.inl ?_)
          rw [h3, ← e]
          rw [List.getD_eq_getElem?_getD, List.getElem?_eq_getElem (show j < p.length by omega), Option.getD_some]
          exact List.mem_take_iff_getElem.2 ⟨j, by omega, rfl⟩
      · exact List.mem_append.2 (.inr h3)
  have := nodup_len (plcs_nodup p.length) key
  rw [plcs_length, List.length_append, List.length_take, List.length_drop] at this
  omega
theorem all_good {p : List Int} (h1 : ∀ i, i < p.length → 0 ≤ p.getD i 0 ∧ p.getD i 0 < p.length) (h2 : ∀ i j, i < p.length → j < p.length → p.getD i 0 = p.getD j 0 → i = j) : allB p = true := by
  rw [allB_iff]
  intro x hx
  by_cases hm : x ∈ p
  · exact hm
  · exfalso
    have hnd : p.Nodup := by
      rw [List.Nodup, List.pairwise_iff_getElem]
      intro i j hi hj hij e
      have := h2 i j hi hj (by simp only [List.getD_eq_getElem?_getD, List.getElem?_eq_getElem hi, List.getElem?_eq_getElem hj, Option.getD_some]; exact e)
      omega
    have := nodup_len (l1 := x :: p) (l2 := plcs p.length) (List.nodup_cons.2 ⟨hm, hnd⟩) (fun y hy => by
      rcases List.mem_cons.1 hy with e | e
      · rw [e]; exact hx
      · obtain ⟨i, hi, e2⟩ := List.getElem_of_mem e
        have := h1 i hi
        simp only [List.getD_eq_getElem?_getD, List.getElem?_eq_getElem hi, Option.getD_some, e2] at this
        exact plcs_mem.2 this)
    rw [plcs_length, List.length_cons] at this
    omega

/-- A block that is new. -/
def Frs (B : Nat) (A : Option Addr) : Prop := ∀ a, A = some a → B ≤ a.block
theorem Frs.mono {B C : Nat} {A : Option Addr} (h : Frs B A) (hc : C ≤ B) : Frs C A := fun a ha => Nat.le_trans hc (h a ha)

def InvEnd (w : World) (p : List Int) (n : Nat) (e : Ending) (u : World) : Prop :=
  Below w.heap.size w u ∧ ((allB p = true ∧ ∃ D L, L.length = n ∧ e = .returned (.tuple #[.slice (some ⟨D, 0, none⟩) n n, .int .i64 0]) ∧ NumsAt .i64 u (some ⟨D, 0, none⟩) L ∧ w.heap.size ≤ D ∧ ∀ i, i < n → ∃ q : Nat, p.getD i 0 = (q : Int) ∧ q < n ∧ L.getD q 0 = (i : Int)) ∨
    (allB p = false ∧ e = .returned (.tuple #[.slice none 0 0, .int .i64 1])))

set_option maxHeartbeats 4000000 in
theorem inverse_any (A : Option Addr) (n c : Nat) (p : List Int) (w : World) (hA : NumsAt .i64 w A p) (hl : p.length = n) (hn : n ≤ 1000000) : Calls Tryz.prog 132 #[.slice A n c] w (InvEnd w p n) := by
  have HX := Lib.hid (And.intro hA hl)
  clear hA hl
  obtain ⟨i0, hi, hz0, hz1, hz2⟩ := info_parts info3
  go_enter Tryz.func132, Tryz.ntmps132
  go_wp2_with (first | (at_make; refine wpList_make_full _ rfl _ _ 38 rfl w.heap.size 3 i0 (.int .i64 0) 1 Tryz.underlying38 hi hz0 hz1 _ _ _ _ n rfl rfl rfl rfl ?b2 ?b3 (Nat.le_refl _) ?_))
  case b2 => first | omega | (rw [hz2]; omega)
  case b3 => unfold maxLen; omega
  intro w1 hown hgrow
  have hD := DI.made (Below.refl _ _) hown hgrow
  have HD := Lib.hid hD
  clear hown hgrow hD hi hz0 hz1 hz2
  obtain ⟨D, hDe⟩ : ∃ D, D = w.heap.size := ⟨_, rfl⟩
  rw [← hDe] at HD
  rw [← hDe]
  clear hDe
  go_wp2
  go_loopw [5, 13] (fun _ v13 wr => ∃ i : Nat, i ≤ n ∧ v13 = .int .i64 (i : Int) ∧ DI w D n (fun k => if k < i then -1 else 0) wr) (fun _ v13 _ => n - (intOf v13).toNat)
  case atStart => exact ⟨0, Nat.zero_le _, rfl, HD.out.congr fun i _ => by simp⟩
  case round =>
    obtain ⟨i, hin, rfl, hDr⟩ := hrel
    clear HD
    by_cases hlt : i < n
    · have c1 := hDr.cell i hlt
      have z1 := hDr.frz i hlt
      have hset := hDr.set hlt (-1)
      have HS := Lib.hid hset
      clear hset hDr
      have q1 : (i : Int) < (n : Int) := by omega
      have q2 : (0 : Int) ≤ (i : Int) := by omega
      go_wp2
      go_roundw
      case rel =>
        refine ⟨i + 1, by omega, by go_num, HS.out.congr fun k _ => ?_⟩
        by_cases e : k = i
        · rw [if_pos e, if_pos (by omega)]
        · rw [if_neg e]
          by_cases e2 : k < i
          · rw [if_pos e2, if_pos (by omega)]
          · rw [if_neg e2, if_neg (by omega)]
      case measure => simp [intOf]; omega
    · obtain rfl : i = n := by omega
      have HD := Lib.hid (hDr.congr (d' := fun _ => -1) fun k hk => by rw [if_pos hk])
      clear hDr
      have q1 : ¬ (i : Int) < (i : Int) := by omega
      go_wp2
      go_loopw [6, 7, 22] (fun _ _ v22 wr => ∃ (k : Nat) (d : Nat → Int), k ≤ i ∧ v22 = .int .i64 (k : Int) ∧ DI w D i d wr ∧ (∀ j, j < k → ∃ q : Nat, p.getD j 0 = (q : Int) ∧ q < i ∧ d q = (j : Int)) ∧ ∀ q, q < i → d q = -1 ∨ ∃ j, j < k ∧ p.getD j 0 = (q : Int)) (fun _ _ v22 _ => i - (intOf v22).toNat)
      case atStart => exact ⟨0, _, Nat.zero_le _, rfl, HD.out, fun j hj => by omega, fun q _ => .inl rfl⟩
      case round =>
        obtain ⟨k, d, hki, rfl, hDr, h1, h2⟩ := hrel
        clear HD
        by_cases hlt : k < i
        · obtain ⟨bb, off, hAe, -, hcb⟩ := num_at (HX.out.1.kept hDr.bel) (i := k) (by rw [HX.out.2]; exact hlt)
          have hkl : k < p.length := by rw [HX.out.2]; exact hlt
          have hbad := fun h => all_bad (p := p) hkl h
          rw [HX.out.2] at hbad
          obtain ⟨x, hx⟩ : ∃ x, x = p.getD k 0 := ⟨_, rfl⟩
          rw [← hx] at hcb hbad
          have HBD := Lib.hid hbad
          have HXX := Lib.hid hx
          subst hAe
          clear hbad hx hkl
          have q2 : (k : Int) < (i : Int) := by omega
          have q3 : (0 : Int) ≤ (k : Int) := by omega
          by_cases hx0 : x < 0
          · have HB := Lib.hid (And.intro hDr.bel (HBD.out (.inl (.inl hx0))))
            clear hDr h1 h2
            go_wp2
            go_ret2
            exact ⟨HB.out.1, .inr ⟨HB.out.2, rfl⟩⟩
          · by_cases hx1 : (i : Int) ≤ x
            · have HB := Lib.hid (And.intro hDr.bel (HBD.out (.inl (.inr hx1))))
              clear hDr h1 h2
              go_wp2
              go_ret2
              exact ⟨HB.out.1, .inr ⟨HB.out.2, rfl⟩⟩
            · obtain ⟨q, rfl⟩ : ∃ q : Nat, x = (q : Int) := ⟨x.toNat, by omega⟩
              have hqi : q < i := by omega
              have c1 := hDr.cell q hqi
              have z1 := hDr.frz q hqi
              have q4 : (q : Int) < (i : Int) := by omega
              have q5 : (0 : Int) ≤ (q : Int) := by omega
              by_cases hfree : d q = -1
              · have hset := hDr.set hqi (k : Int)
                have HS := Lib.hid (And.intro hset (And.intro h1 (And.intro h2 hfree)))
                rw [hfree] at c1
                clear hset hDr h1 h2 hfree
                go_wp2
                go_roundw
                case rel =>
                  obtain ⟨g1, g2, g3, g4⟩ := HS.out
                  refine ⟨k + 1, _, by omega, by go_num, g1, fun j hj => ?_, fun q' hq' => ?_⟩
                  · by_cases ej : j = k
                    · exact ⟨q, by rw [ej, ← HXX.out], hqi, by rw [if_pos rfl, ej]⟩
                    · obtain ⟨q', e1, e2, e3⟩ := g2 j (by omega)
                      refine ⟨q', e1, e2, ?_⟩
                      rw [if_neg, e3]
                      intro e
                      rw [e, g4] at e3
                      omega
                  · by_cases eq : q' = q
                    · exact .inr ⟨k, by omega, by rw [eq, ← HXX.out]⟩
                    · rcases g3 q' hq' with h | ⟨j, hj, h⟩
                      · exact .inl (by rw [if_neg eq]; exact h)
                      · exact .inr ⟨j, by omega, h⟩
                case measure => simp [intOf]; omega
              · have hdup : ∃ j, j < k ∧ p.getD j 0 = (q : Int) := by
                  rcases h2 q hqi with h | h
                  · exact absurd h hfree
                  · exact h
                have HB := Lib.hid (And.intro hDr.bel (HBD.out (.inr hdup)))
                have q6 : (d q == -1) = false := by simpa using hfree
                clear hDr h1 h2 hdup
                generalize d q = y at *
                go_wp2
                go_ret2
                exact ⟨HB.out.1, .inr ⟨HB.out.2, rfl⟩⟩
        · obtain rfl : k = i := by omega
          have HF := Lib.hid (And.intro hDr h1)
          clear hDr h1 h2
          have q2 : ¬ (k : Int) < (k : Int) := by omega
          go_wp2
          go_ret2
          have hgood : allB p = true := by
            apply all_good
            · intro j hj
              rw [HX.out.2] at hj ⊢
              obtain ⟨q, e1, e2, -⟩ := HF.out.2 j hj
              omega
            · intro j j' hj hj' e
              rw [HX.out.2] at hj hj'
              obtain ⟨q, e1, -, e2⟩ := HF.out.2 j hj
              obtain ⟨q', e1', -, e2'⟩ := HF.out.2 j' hj'
              have : q = q' := by omega
              subst this
              omega
          have hLl : ((List.range k).map d).length = k := by simp
          have hLa : ∀ q, q < k → ((List.range k).map d).getD q 0 = d q := fun q hq => by simp [List.getD_eq_getElem?_getD, hq]
          refine ⟨HF.out.1.bel, .inl ⟨hgood, D, (List.range k).map d, hLl, rfl, HF.out.1.nums hLl (fun j hj => (hLa j hj).symm), HF.out.1.lo, fun j hj => ?_⟩⟩
          obtain ⟨q, e1, e2, e3⟩ := HF.out.2 j hj
          exact ⟨q, e1, e2, by rw [hLa q e2, e3]⟩

end Go.Proofs.YtpnjccomngdblaaGreat
end

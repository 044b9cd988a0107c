/- Plain facts: three numbers at once tell the order of the sample's suffixes; two orders are merged. No program is named here. -/
import Derived.Test.YtdepncdknofocaaXF
set_option maxRecDepth 100000
namespace Go.Proofs.Ytdepncdknofocaa
open Go.RowKit
open M

theorem sl_step {b : Int} {l : List Int} {p q : Nat} : sl b l p q ↔ l.getD p b < l.getD q b ∨ (l.getD p b = l.getD q b ∧ sl b l (p + 1) (q + 1)) := by
  constructor
  · rintro ⟨k, h1, h2⟩
    cases k with
    | zero => exact .inl h2
    | succ k =>
      refine .inr ⟨h1 0 (by omega), k, fun m hm => ?_, ?_⟩
      · have := h1 (m + 1) (by omega)
        unfold sf at this ⊢
        rw [show p + 1 + m = p + (m + 1) by omega, show q + 1 + m = q + (m + 1) by omega]; exact this
      · unfold sf at h2 ⊢
        rw [show p + 1 + k = p + (k + 1) by omega, show q + 1 + k = q + (k + 1) by omega]; exact h2
  · rintro (h | ⟨h0, k, h1, h2⟩)
    · exact ⟨0, fun m hm => by omega, h⟩
    · refine ⟨k + 1, fun m hm => ?_, ?_⟩
      · cases m with
        | zero => exact h0
        | succ m =>
          have := h1 m (by omega)
          unfold sf at this ⊢
          rw [show p + (m + 1) = p + 1 + m by omega, show q + (m + 1) = q + 1 + m by omega]; exact this
      · unfold sf at h2 ⊢
        rw [show p + (k + 1) = p + 1 + k by omega, show q + (k + 1) = q + 1 + k by omega]; exact h2

/-- The place of the sample. -/
def plN (n i : Nat) : Nat := if i < thC n 1 then thS n 1 + 3 * i else thS n 2 + 3 * (i - thC n 1)
theorem th_vals (n : Nat) : (thS n 0 < 3 ∧ thS n 1 < 3 ∧ thS n 2 < 3) ∧ (n - thS n 0) % 3 = 0 ∧ (n + 2 - thS n 1) % 3 = 0 ∧ (n + 1 - thS n 2) % 3 = 0 := by
  unfold thS
  omega
theorem smp_at (n i : Nat) (h : i < thC n 1 + thC n 2) : (smp n).getD i 0 = ((plN n i : Nat) : Int) := by
  unfold smp plN
  by_cases e : i < thC n 1
  · rw [if_pos e, ← thL_at n 1 i e]; simp only [List.getD_eq_getElem?_getD]; rw [List.getElem?_append_left (by rw [thL_len]; exact e)]
  · rw [if_neg e, ← thL_at n 2 _ (by omega)]; simp only [List.getD_eq_getElem?_getD]; rw [List.getElem?_append_right (by rw [thL_len]; omega), thL_len]
theorem plN_lt (n i : Nat) (h : i < thC n 1 + thC n 2) : plN n i < n := by
  unfold plN
  split
  · rename_i e; exact (thC_iff n 1 i).1 e
  · exact (thC_iff n 2 _).1 (by omega)
theorem th_sums (n : Nat) : thC n 0 + thC n 1 + thC n 2 = n := by
  have := th_vals n
  unfold thC
  omega
/-- What is known of the sample's places: what they leave by three, the last ones, where none is behind. -/
theorem plN_first (n i : Nat) (h : i < thC n 1) : (n - plN n i) % 3 = 1 := by
  have h1 := (thC_iff n 1 i).1 h
  have := th_vals n
  unfold plN
  rw [if_pos h]
  omega
theorem plN_second (n i : Nat) (h : ¬ i < thC n 1) (h2 : i < thC n 1 + thC n 2) : (n - plN n i) % 3 = 2 := by
  have h1 := (thC_iff n 2 (i - thC n 1)).1 (by omega)
  have := th_vals n
  unfold plN
  rw [if_neg h]
  omega
theorem plN_inj (n i j : Nat) (h : i < thC n 1 + thC n 2) (h2 : j < thC n 1 + thC n 2) (e : plN n i = plN n j) : i = j := by
  by_cases hi : i < thC n 1
  · have a := plN_first n i hi
    by_cases hj : j < thC n 1
    · unfold plN at e
      rw [if_pos hi, if_pos hj] at e
      omega
    · have b := plN_second n j hj h2
      rw [e] at a; omega
  · have a := plN_second n i hi h
    by_cases hj : j < thC n 1
    · have b := plN_first n j hj
      rw [e] at a; omega
    · unfold plN at e
      rw [if_neg hi, if_neg hj] at e
      omega
theorem plN_next (n i : Nat) (h : i + 1 ≠ thC n 1) : plN n (i + 1) = plN n i + 3 := by
  unfold plN
  by_cases e : i < thC n 1
  · rw [if_pos e, if_pos (by omega)]; omega
  · rw [if_neg e, if_neg (by omega)]; omega
theorem plN_last1 (n i : Nat) (h : i + 1 = thC n 1) : plN n i + 1 = n := by
  have h1 := (thC_iff n 1 i).1 (by omega)
  have h2 := thC_iff n 1 (i + 1)
  have := th_vals n
  unfold plN
  rw [if_pos (by omega)]
  omega
theorem plN_end (n : Nat) (h : 2 ≤ n) : plN n (thC n 1 + thC n 2) = n + 1 := by
  have h2 := thC_iff n 2 (thC n 2)
  have h3 := thC_iff n 2 (thC n 2 - 1)
  have := th_vals n
  have h0 : 0 < thC n 2 := by unfold thC; omega
  unfold plN
  rw [if_neg (by omega)]
  omega
/-- Each place that is not of the thirds of rest 0 is of the sample. -/
theorem plN_has (n p : Nat) (hp : p < n) (h : (n - p) % 3 ≠ 0) : ∃ i, i < thC n 1 + thC n 2 ∧ plN n i = p := by
  have hv := th_vals n
  by_cases e : (n - p) % 3 = 1
  · have hk : p = thS n 1 + 3 * ((p - thS n 1) / 3) := by omega
    have hlt := (thC_iff n 1 ((p - thS n 1) / 3)).2 (by omega)
    exact ⟨(p - thS n 1) / 3, by omega, by unfold plN; rw [if_pos hlt]; omega⟩
  · have hk : p = thS n 2 + 3 * ((p - thS n 2) / 3) := by omega
    have hlt := (thC_iff n 2 ((p - thS n 2) / 3)).2 (by omega)
    exact ⟨thC n 1 + (p - thS n 2) / 3, by omega, by unfold plN; rw [if_neg (by omega)]; omega⟩

/-- Three numbers at once. -/
def T3 (l : List Int) (p q : Nat) : Prop := l.getD p (-1) < l.getD q (-1) ∨ (l.getD p (-1) = l.getD q (-1) ∧ (l.getD (p + 1) (-1) < l.getD (q + 1) (-1) ∨ (l.getD (p + 1) (-1) = l.getD (q + 1) (-1) ∧ l.getD (p + 2) (-1) < l.getD (q + 2) (-1))))
def E3 (l : List Int) (p q : Nat) : Prop := l.getD p (-1) = l.getD q (-1) ∧ l.getD (p + 1) (-1) = l.getD (q + 1) (-1) ∧ l.getD (p + 2) (-1) = l.getD (q + 2) (-1)
/-- The level below. -/
structure Bel (row three : List Int) : Prop where
  len : three.length = thC row.length 1 + thC row.length 2
  rk : Rk three
  lt : ∀ i j, i < three.length → j < three.length → (three.getD i 0 < three.getD j 0 ↔ T3 row (plN row.length i) (plN row.length j))
  eq : ∀ i j, i < three.length → j < three.length → (three.getD i 0 = three.getD j 0 ↔ E3 row (plN row.length i) (plN row.length j))

theorem Rk.ge {l : List Int} (h : Rk l) {i : Nat} (hi : i < l.length) : 0 ≤ l.getD i (-1) := (h.nn _ (getD_mem hi)).1

/-- Where the levels' suffixes are alike, so are the row's. -/
theorem Bel.step {row three : List Int} (hr : Rk row) (h : Bel row three) {i j k : Nat} (hne : i ≠ j) (hin : ∀ m, m < k → i + m < three.length ∧ j + m < three.length) (he : ∀ m, m < k → sf (-1) three i m = sf (-1) three j m) :
    ∀ t, t ≤ k → plN row.length (i + t) = plN row.length i + 3 * t ∧ plN row.length (j + t) = plN row.length j + 3 * t := by
  intro t
  induction t with
  | zero => intro _; exact ⟨rfl, rfl⟩
  | succ t ih =>
    intro ht
    obtain ⟨h1, h2⟩ := ih (by omega)
    obtain ⟨hi, hj⟩ := hin t (by omega)
    have e0 := he t (by omega)
    unfold sf at e0
    rw [getD_in hi, getD_in hj] at e0
    obtain ⟨-, e2, -⟩ := (h.eq _ _ hi hj).1 e0
    have li := h.len ▸ hi
    have lj := h.len ▸ hj
    have pi := plN_lt row.length (i + t) li
    have pj := plN_lt row.length (j + t) lj
    have key : ∀ {x y : Nat}, x < thC row.length 1 + thC row.length 2 → y < thC row.length 1 + thC row.length 2 → x ≠ y → row.getD (plN row.length x + 1) (-1) = row.getD (plN row.length y + 1) (-1) → x + 1 ≠ thC row.length 1 := by
      intro x y hx hy hxy e hl
      have hp := plN_last1 row.length x hl
      rw [getD_out (i := plN row.length x + 1) (by omega)] at e
      have hq : row.length ≤ plN row.length y + 1 := Nat.not_lt.1 fun hlt => by have := hr.ge hlt; omega
      have := plN_lt row.length y hy
      exact hxy (plN_inj row.length x y hx hy (by omega))
    have n1 := plN_next row.length (i + t) (key li lj (by omega) e2)
    have n2 := plN_next row.length (j + t) (key lj li (by omega) e2.symm)
    rw [show i + (t + 1) = i + t + 1 by omega, show j + (t + 1) = j + t + 1 by omega, n1, n2, h1, h2]
    omega

theorem Bel.up {row three : List Int} (hr : Rk row) (hn : 2 ≤ row.length) (h : Bel row three) {i j : Nat} (hi : i < three.length) (hj : j < three.length) (hs : sl (-1) three i j) : sl (-1) row (plN row.length i) (plN row.length j) := by
  obtain ⟨k, h1, h2⟩ := hs
  have hne : i ≠ j := by rintro rfl; omega
  have hin := sl_inside h.rk.abv (by omega) (by omega) hne h1
  have hst := h.step hr hne hin h1
  obtain ⟨ek, ek'⟩ := hst k (Nat.le_refl _)
  have hE : ∀ m, m < k → E3 row (plN row.length i + 3 * m) (plN row.length j + 3 * m) := fun m hm => by
    obtain ⟨a, b⟩ := hst m (by omega)
    obtain ⟨c, d⟩ := hin m hm
    have e := h1 m hm
    unfold sf at e
    rw [getD_in c, getD_in d] at e
    rw [← a, ← b]
    exact (h.eq _ _ c d).1 e
  have hbefore : ∀ m, m < 3 * k → sf (-1) row (plN row.length i) m = sf (-1) row (plN row.length j) m := fun m hm => by
    have hm3 : m = 3 * (m / 3) + m % 3 := by omega
    obtain ⟨e0, e1, e2⟩ := hE (m / 3) (by omega)
    have : m % 3 < 3 := Nat.mod_lt _ (by omega)
    unfold sf
    rw [hm3]
    generalize m / 3 = t at *
    generalize m % 3 = r at *
    rcases (show r = 0 ∨ r = 1 ∨ r = 2 by omega) with rfl | rfl | rfl
    · simpa [Nat.add_assoc] using e0
    · simpa [Nat.add_assoc] using e1
    · simpa [Nat.add_assoc] using e2
  have hik : i + k ≤ three.length := by
    cases k with
    | zero => omega
    | succ k => have := hin k (by omega); omega
  have hjk : j + k ≤ three.length := by
    cases k with
    | zero => omega
    | succ k => have := hin k (by omega); omega
  unfold sf at h2
  by_cases hjl : j + k < three.length
  · by_cases hil : i + k < three.length
    · rw [getD_in hil, getD_in hjl, h.lt _ _ hil hjl, ek, ek'] at h2
      rcases h2 with h2 | ⟨e0, h2 | ⟨e1, h2⟩⟩
      · exact ⟨3 * k, hbefore, h2⟩
      · refine ⟨3 * k + 1, fun m hm => ?_, h2⟩
        by_cases e : m < 3 * k
        · exact hbefore m e
        · obtain rfl : m = 3 * k := by omega
          exact e0
      · refine ⟨3 * k + 2, fun m hm => ?_, h2⟩
        by_cases e : m < 3 * k
        · exact hbefore m e
        · rcases (show m = 3 * k ∨ m = 3 * k + 1 by omega) with rfl | rfl
          · exact e0
          · exact e1
    · have hem : i + k = thC row.length 1 + thC row.length 2 := by rw [← h.len]; omega
      have hend := plN_end row.length hn
      rw [← hem, ek] at hend
      have hq := plN_lt row.length (j + k) (h.len ▸ hjl)
      rw [ek'] at hq
      refine ⟨3 * k, hbefore, ?_⟩
      unfold sf
      rw [getD_out (i := plN row.length i + 3 * k) (by omega)]
      have := hr.ge hq
      omega
  · rw [getD_out (i := j + k) (by omega)] at h2
    by_cases hil : i + k < three.length
    · have := h.rk.ge hil; omega
    · rw [getD_out (i := i + k) (by omega)] at h2; omega

theorem Bel.iff {row three : List Int} (hr : Rk row) (hn : 2 ≤ row.length) (h : Bel row three) {i j : Nat} (hi : i < three.length) (hj : j < three.length) : sl (-1) three i j ↔ sl (-1) row (plN row.length i) (plN row.length j) := by
  refine ⟨h.up hr hn hi hj, fun hs => ?_⟩
  by_cases e : i = j
  · subst e; exact absurd hs lx.irr
  · rcases sl_total h.rk.abv (Nat.le_of_lt hi) (Nat.le_of_lt hj) e with h1 | h1
    · exact h1
    · exact absurd hs (h.up hr hn hj hi h1).asymm

/-! ## Two orders -/
def mrg (lt : Int → Int → Bool) (A : List Int) : List Int → List Int
  | [] => A
  | q :: B => A.takeWhile (fun a => lt a q) ++ q :: mrg lt (A.dropWhile fun a => lt a q) B
theorem mrg_perm (lt : Int → Int → Bool) : ∀ (B A : List Int), (mrg lt A B).Perm (A ++ B) := by
  intro B
  induction B with
  | nil => intro A; simp [mrg]
  | cons q B ih =>
    intro A
    unfold mrg
    have h1 := ih (A.dropWhile fun a => lt a q)
    have h2 : (A.takeWhile (fun a => lt a q) ++ q :: mrg lt (A.dropWhile fun a => lt a q) B).Perm (A.takeWhile (fun a => lt a q) ++ q :: (A.dropWhile (fun a => lt a q) ++ B)) := List.Perm.append_left _ (h1.cons q)
    refine h2.trans ?_
    refine ((List.perm_middle (a := q) (l₁ := A.takeWhile fun a => lt a q) (l₂ := A.dropWhile (fun a => lt a q) ++ B)).trans ?_)
    rw [← List.append_assoc, List.takeWhile_append_dropWhile]
    exact List.perm_middle.symm
theorem mrg_pw {R : Int → Int → Prop} {lt : Int → Int → Bool} (tr : ∀ x y z, R x y → R y z → R x z) : ∀ (B A : List Int), (∀ a ∈ A, ∀ q ∈ B, (lt a q = true → R a q) ∧ (lt a q = false → R q a)) → A.Pairwise R → B.Pairwise R → (mrg lt A B).Pairwise R := by
  intro B
  induction B with
  | nil => intro A _ hA _; exact hA
  | cons q B ih =>
    intro A h hA hB
    unfold mrg
    rw [List.pairwise_cons] at hB
    have hd : ∀ a ∈ A.dropWhile (fun a => lt a q), a ∈ A := fun a ha => (List.dropWhile_sublist _).mem ha
    have ht : ∀ a ∈ A.takeWhile (fun a => lt a q), a ∈ A ∧ lt a q = true := fun a ha => ⟨(List.takeWhile_sublist _).mem ha, by have := List.all_takeWhile (p := fun a => lt a q) (l := A); rw [List.all_eq_true] at this; exact this a ha⟩
    have hdn : ∀ a ∈ A.dropWhile (fun a => lt a q), R q a := by
      intro a ha
      have hpw := hA.sublist (List.dropWhile_sublist fun a => lt a q)
      cases hdr : A.dropWhile (fun a => lt a q) with
      | nil => rw [hdr] at ha; simp at ha
      | cons c t =>
        have hc : lt c q = false := by
          have := List.head?_dropWhile_not (fun a => lt a q) A
          rw [hdr] at this
          simpa using this
        have hcm : c ∈ A := hd c (by rw [hdr]; simp)
        have hqc := (h c hcm q (by simp)).2 hc
        rw [hdr] at ha hpw
        rcases List.mem_cons.1 ha with e | e
        · rw [e]; exact hqc
        · exact tr _ _ _ hqc ((List.pairwise_cons.1 hpw).1 a e)
    have hrec := ih (A.dropWhile fun a => lt a q) (fun a ha b hb => h a (hd a ha) b (by simp [hb])) (hA.sublist (List.dropWhile_sublist _)) hB.2
    have hqm : ∀ x ∈ mrg lt (A.dropWhile fun a => lt a q) B, R q x := fun x hx => by
      rcases List.mem_append.1 ((mrg_perm lt B _).mem_iff.1 hx) with e | e
      · exact hdn x e
      · exact hB.1 x e
    rw [List.pairwise_append]
    refine ⟨hA.sublist (List.takeWhile_sublist _), List.pairwise_cons.2 ⟨hqm, hrec⟩, ?_⟩
    intro a ha x hx
    have haq := (h a (ht a ha).1 q (by simp)).1 (ht a ha).2
    rcases List.mem_cons.1 hx with e | e
    · rw [e]; exact haq
    · exact tr _ _ _ haq (hqm x e)

end Go.Proofs.Ytdepncdknofocaa

/- Merged out of: VD VG VH VJ VK VL VN VO VP VQ VR VS VTa LA VT. -/
import Derived.Test.YtpnjccomngdblaaGreatVM
import Derived.Test.YtpnjccomngdblaaGreatZG
import Derived.Test.YtpnjccomngdblaaGreatZT
import Derived.BigQuiet
import Derived.Laws.IdiomStrings
import Derived.Deep.CutRange
import Derived.Deep.CutBlock

section
/- Plain facts: where a text stands in the row of texts. No program is named here. -/
set_option maxRecDepth 100000
namespace Go.Proofs.YtpnjccomngdblaaGreat

def tx (ss : List ByteArray) (q : Nat) : Nat := (List.range ss.length).countP fun i => decide (bg ss (i + 1) ≤ q)
theorem tx_eq {ss : List ByteArray} {i q : Nat} (hi : i < ss.length) (h1 : bg ss i ≤ q) (h2 : q < bg ss (i + 1)) : tx ss q = i := by
  unfold tx
  have : (List.range ss.length).countP (fun k => decide (bg ss (k + 1) ≤ q)) = (List.range ss.length).countP (fun k => decide (k < i) && true) := by
    refine List.countP_congr fun k _ => ?_
    simp only [Bool.and_true, decide_eq_true_eq]
    constructor
    · intro h
      apply Classical.byContradiction
      intro hk
      have := bg_mono ss (i := i + 1) (j := k + 1) (by omega)
      omega
    · intro h
      have := bg_mono ss (i := k + 1) (j := i) (by omega)
      omega
  rw [this, countP_lt _ _ _ (by omega)]
  simp
theorem tx_ok {ss : List ByteArray} {q : Nat} (h : q < (rowV ss).length) : tx ss q < ss.length ∧ bg ss (tx ss q) ≤ q ∧ q < bg ss (tx ss q + 1) := by
  rw [row_len] at h
  obtain ⟨i, hi, h1, h2⟩ := text_of ss _ q h
  rw [tx_eq hi h1 h2]
  exact ⟨hi, h1, h2⟩
theorem tx_mono (ss : List ByteArray) {q q' : Nat} (h : q ≤ q') : tx ss q ≤ tx ss q' := by
  unfold tx
  refine List.countP_mono_left fun i _ hi => ?_
  simp only [decide_eq_true_eq] at hi ⊢
  omega

theorem st_row (ss : List ByteArray) (p : ByteArray) {i k : Nat} (hi : i < ss.length) (hk : k ≤ (tV ss i).size) (_hp : 0 < p.size) : stB (rowV ss) (sy p) (bg ss i + k) = inT (tV ss i) p k := by
  rw [Bool.eq_iff_iff, st_at, inT_iff, sy_len]
  have hl := row_len ss
  have hb := bg_lt ss (i := i) (j := ss.length) hi
  constructor
  · intro ⟨h1, h2⟩
    have hin : k + p.size ≤ (tV ss i).size := by
      apply Classical.byContradiction
      intro hc
      have h3 := h2 ((tV ss i).size - k) (by omega)
      rw [show bg ss i + k + ((tV ss i).size - k) = bg ss i + (tV ss i).size by omega, row_end ss hi, sy_at p (by omega)] at h3
      omega
    refine ⟨hin, fun j hj => ?_⟩
    have h3 := h2 j hj
    rw [show bg ss i + k + j = bg ss i + (k + j) by omega, row_at ss hi (by omega), sy_at _ (by omega), sy_at _ hj] at h3
    exact u8_inj h3
  · intro ⟨h1, h2⟩
    refine ⟨by omega, fun j hj => ?_⟩
    rw [show bg ss i + k + j = bg ss i + (k + j) by omega, row_at ss hi (by omega), sy_at _ (by omega), sy_at _ hj, h2 j hj]
theorem st_off (ss : List ByteArray) (p : ByteArray) (hp : 0 < p.size) : stB (rowV ss) (sy p) (rowV ss).length = false := by
  rw [Bool.eq_false_iff]
  intro h
  have := (st_at _ _).1 h
  rw [sy_len] at this
  omega
theorem cn_row (ss : List ByteArray) (p : ByteArray) (hp : 0 < p.size) : ∀ i, i ≤ ss.length → (List.range (bg ss i)).countP (stB (rowV ss) (sy p)) = cnV ss p i := by
  intro i
  induction i with
  | zero => intro _; rfl
  | succ i ih =>
    intro h
    rw [show bg ss (i + 1) = bg ss i + ((tV ss i).size + 1) from rfl, List.range_add, List.countP_append, ih (by omega), countP_map']
    show _ = cnV ss p i + _
    congr 1
    refine List.countP_congr fun k hk => ?_
    have := List.mem_range.1 hk
    rw [st_row ss p (by omega) (by omega) hp]
theorem fnd_count' (l p : List Int) : (fndL l p).length = (List.range (l.length + 1)).countP (stB l p) := by
  unfold fndL
  rw [List.length_map, ← List.countP_eq_length_filter]
theorem fnd_cn (ss : List ByteArray) (p : ByteArray) (hp : 0 < p.size) : (fndL (rowV ss) (sy p)).length = cnV ss p ss.length := by
  rw [fnd_count', List.range_succ, List.countP_append, List.countP_singleton, if_neg (by rw [st_off ss p hp]; simp), Nat.add_zero, row_len, cn_row ss p hp _ (Nat.le_refl _)]
theorem fnd_is' {l p : List Int} {x : Int} : x ∈ fndL l p ↔ ∃ q : Nat, x = (q : Int) ∧ q ≤ l.length ∧ stB l p q = true := by
  unfold fndL
  simp only [List.mem_map, List.mem_filter, List.mem_range]
  constructor
  · rintro ⟨q, ⟨h1, h2⟩, rfl⟩; exact ⟨q, rfl, by omega, h2⟩
  · rintro ⟨q, rfl, h1, h2⟩; exact ⟨q, ⟨by omega, h2⟩, rfl⟩

theorem st_zeroV (ss : List ByteArray) {i k : Nat} (hi : i < ss.length) (hk : k ≤ (tV ss i).size) : stB (rowV ss) [0] (bg ss i + k) = decide (k = (tV ss i).size) := by
  rw [Bool.eq_iff_iff, st_at, decide_eq_true_eq]
  have hl := row_len ss
  have hb := bg_lt ss (i := i) (j := ss.length) hi
  constructor
  · intro ⟨_, h2⟩
    apply Classical.byContradiction
    intro hc
    have h3 := h2 0 (by simp)
    rw [Nat.add_zero, row_at ss hi (by omega), sy_at _ (by omega)] at h3
    simp at h3
    omega
  · rintro rfl
    refine ⟨by simp; omega, fun j hj => ?_⟩
    obtain rfl : j = 0 := by simpa using hj
    rw [Nat.add_zero, row_end ss hi]; rfl
theorem fnd_end (ss : List ByteArray) : fndL (rowV ss) [0] = endV ss := by
  apply asc_eq _ _ (fndL_pw _ _) (end_asc ss)
  intro x
  rw [fnd_is']
  unfold endV
  simp only [List.mem_map, List.mem_range]
  constructor
  · rintro ⟨q, rfl, hq, hs⟩
    have hlt : q < (rowV ss).length := by
      have := ((st_at _ _).1 hs).1
      simp at this
      omega
    obtain ⟨h1, h2, h3⟩ := tx_ok hlt
    rw [bg_up] at h3
    rw [show q = bg ss (tx ss q) + (q - bg ss (tx ss q)) by omega, st_zeroV ss h1 (by omega), decide_eq_true_eq] at hs
    exact ⟨tx ss q, h1, by omega⟩
  · rintro ⟨i, hi, rfl⟩
    have hb := bg_lt ss (i := i) (j := ss.length) hi
    exact ⟨_, rfl, by rw [row_len]; omega, by rw [st_zeroV ss hi (Nat.le_refl _)]; simp⟩

/-- What is found in the places that were gone over: each text once. -/
structure DDV (ss : List ByteArray) (ps f : List Int) : Prop where
  pw : f.Pairwise (· < ·)
  mem : ∀ x, x ∈ f ↔ ∃ q ∈ ps, x = (tx ss q.toNat : Int)
theorem DDV.nil (ss : List ByteArray) : DDV ss [] [] := ⟨List.Pairwise.nil, fun x => by simp⟩
theorem DDV.same {ss : List ByteArray} {ps f : List Int} {q : Int} (h : DDV ss ps f) (hx : (tx ss q.toNat : Int) ∈ f) : DDV ss (ps ++ [q]) f := by
  refine ⟨h.pw, fun x => ?_⟩
  rw [h.mem]
  constructor
  · rintro ⟨y, hy, rfl⟩; exact ⟨y, List.mem_append_left _ hy, rfl⟩
  · rintro ⟨y, hy, rfl⟩
    rcases List.mem_append.1 hy with hy | hy
    · exact ⟨y, hy, rfl⟩
    · obtain rfl := List.mem_singleton.1 hy
      exact (h.mem _).1 hx
theorem DDV.more {ss : List ByteArray} {ps f : List Int} {q : Int} (h : DDV ss ps f) (hq : ∀ y ∈ ps, y ≤ q) (hx : ∀ x ∈ f, x ≠ (tx ss q.toNat : Int)) : DDV ss (ps ++ [q]) (f ++ [(tx ss q.toNat : Int)]) := by
  refine ⟨?_, fun x => ?_⟩
  · rw [List.pairwise_append]
    refine ⟨h.pw, List.pairwise_singleton _ _, fun a ha b hb => ?_⟩
    obtain rfl := List.mem_singleton.1 hb
    have h1 := hx a ha
    obtain ⟨y, hy, rfl⟩ := (h.mem a).1 ha
    have := tx_mono ss (q := y.toNat) (q' := q.toNat) (by have := hq y hy; omega)
    omega
  · rw [List.mem_append, List.mem_singleton, h.mem]
    constructor
    · rintro (⟨y, hy, rfl⟩ | rfl)
      · exact ⟨y, List.mem_append_left _ hy, rfl⟩
      · exact ⟨q, by simp, rfl⟩
    · rintro ⟨y, hy, rfl⟩
      rcases List.mem_append.1 hy with hy | hy
      · exact .inl ⟨y, hy, rfl⟩
      · obtain rfl := List.mem_singleton.1 hy; exact .inr rfl
/-- The last one tells whether a text is there. -/
theorem DDV.last {ss : List ByteArray} {ps f : List Int} {q : Int} (h : DDV ss ps f) (hq : ∀ y ∈ ps, y ≤ q) {m : Nat} (hm : f.length = m + 1) : (f.getD m 0 = (tx ss q.toNat : Int) → (tx ss q.toNat : Int) ∈ f) ∧ (f.getD m 0 ≠ (tx ss q.toNat : Int) → ∀ x ∈ f, x ≠ (tx ss q.toNat : Int)) := by
  have hml : m < f.length := by omega
  have hlast : f.getD m 0 = f[m] := by rw [List.getD_eq_getElem?_getD, List.getElem?_eq_getElem hml, Option.getD_some]
  constructor
  · intro e; rw [← e, hlast]; exact List.getElem_mem hml
  · intro e x hx ex
    obtain ⟨j, hj, rfl⟩ := List.getElem_of_mem hx
    apply e
    rw [hlast]
    by_cases ej : j = m
    · subst ej; exact ex
    · have h1 := List.pairwise_iff_getElem.1 h.pw j m hj hml (by omega)
      obtain ⟨y, hy, hy2⟩ := (h.mem f[m]).1 (List.getElem_mem hml)
      have := tx_mono ss (q := y.toNat) (q' := q.toNat) (by have := hq y hy; omega)
      omega
theorem DDV.ids {ss : List ByteArray} {p : ByteArray} {f : List Int} (hp : 0 < p.size) (h : DDV ss (fndL (rowV ss) (sy p)) f) : f = idsV ss p := by
  apply asc_eq f (idsV ss p) h.pw (filt_asc _ _)
  intro x
  rw [h.mem, ids_mem]
  constructor
  · rintro ⟨y, hy, rfl⟩
    obtain ⟨q, rfl, h1, h2⟩ := fnd_is'.1 hy
    have hlt : q < (rowV ss).length := by
      have := ((st_at _ _).1 h2).1
      rw [sy_len] at this
      omega
    obtain ⟨k1, k2, k3⟩ := tx_ok hlt
    rw [bg_up] at k3
    rw [Int.toNat_natCast]
    refine ⟨_, rfl, k1, (hasT_iff _ _).2 ⟨q - bg ss (tx ss q), by omega, ?_⟩⟩
    rw [← st_row ss p k1 (by omega) hp, show bg ss (tx ss q) + (q - bg ss (tx ss q)) = q by omega]
    exact h2
  · rintro ⟨i, rfl, hi, hh⟩
    obtain ⟨k, hk, hin⟩ := (hasT_iff _ _).1 hh
    have hb := bg_lt ss (i := i) (j := ss.length) hi
    refine ⟨((bg ss i + k : Nat) : Int), fnd_is'.2 ⟨_, rfl, by rw [row_len]; omega, by rw [st_row ss p hi hk hp]; exact hin⟩, ?_⟩
    rw [Int.toNat_natCast, tx_eq hi (by omega) (by rw [bg_up]; omega)]
theorem DDV.all {ss : List ByteArray} {p : ByteArray} {f : List Int} (hp : p.size = 0) (h : DDV ss (endV ss) f) : f = idsV ss p := by
  apply asc_eq f (idsV ss p) h.pw (filt_asc _ _)
  intro x
  rw [h.mem, ids_mem]
  unfold endV
  simp only [List.mem_map, List.mem_range]
  constructor
  · rintro ⟨y, ⟨i, hi, rfl⟩, rfl⟩
    rw [Int.toNat_natCast, tx_eq hi (by omega) (by rw [bg_up]; omega)]
    exact ⟨i, rfl, hi, (hasT_iff _ _).2 ⟨0, Nat.zero_le _, inT_nil _ _ hp (Nat.zero_le _)⟩⟩
  · rintro ⟨i, rfl, hi, -⟩
    exact ⟨_, ⟨i, hi, rfl⟩, by rw [Int.toNat_natCast, tx_eq hi (by omega) (by rw [bg_up]; omega)]⟩

theorem st_eq (ss : List ByteArray) (p : ByteArray) {i k : Nat} (hi : i < ss.length) (hk : k ≤ (tV ss i).size) : stB (rowV ss) (0 :: (sy p ++ [0])) (bg ss i + k) = (decide (k = (tV ss i).size) && decide (i + 1 < ss.length) && decide (tV ss (i + 1) = p)) := by
  have hl := row_len ss
  have hb := bg_lt ss (i := i) (j := ss.length) hi
  rw [Bool.eq_iff_iff, st_at]
  simp only [Bool.and_eq_true, decide_eq_true_eq]
  have hpl : (0 :: (sy p ++ [0])).length = p.size + 2 := by rw [List.length_cons, List.length_append, sy_len]; rfl
  have hp0 : ∀ j, j < p.size → (0 :: (sy p ++ [0])).getD (j + 1) 0 = (sy p).getD j 0 := fun j hj => by
    rw [List.getD_cons_succ, List.getD_eq_getElem?_getD, List.getElem?_append_left (by rw [sy_len]; exact hj), ← List.getD_eq_getElem?_getD]
  have hpe : (0 :: (sy p ++ [0])).getD (p.size + 1) 0 = 0 := by
    rw [List.getD_cons_succ, List.getD_eq_getElem?_getD, List.getElem?_append_right (by rw [sy_len]; exact Nat.le_refl _), sy_len, Nat.sub_self]
    rfl
  rw [hpl]
  constructor
  · intro ⟨h1, h2⟩
    have hk2 : k = (tV ss i).size := by
      apply Classical.byContradiction
      intro hc
      have h3 := h2 0 (by omega)
      rw [Nat.add_zero, row_at ss hi (by omega), sy_at _ (by omega), List.getD_cons_zero] at h3
      omega
    subst hk2
    have hi2 : i + 1 < ss.length := by
      apply Classical.byContradiction
      intro hc
      have : ss.length = i + 1 := by omega
      rw [hl, this, bg_up] at h1
      omega
    refine ⟨⟨rfl, hi2⟩, ?_⟩
    have hb2 := bg_lt ss (i := i + 1) (j := ss.length) hi2
    have hbu := bg_up ss i
    have at2 : ∀ j, j < p.size → j < (tV ss (i + 1)).size → (tV ss (i + 1)).data.toList.getD j 0 = p.data.toList.getD j 0 := by
      intro j hj hj2
      have h3 := h2 (j + 1) (by omega)
      rw [show bg ss i + (tV ss i).size + (j + 1) = bg ss (i + 1) + j by omega, row_at ss hi2 hj2, sy_at _ hj2, hp0 j hj, sy_at _ hj] at h3
      exact u8_inj h3
    have hsz : (tV ss (i + 1)).size = p.size := by
      rcases Nat.lt_trichotomy (tV ss (i + 1)).size p.size with h | h | h
      · exfalso
        have h3 := h2 ((tV ss (i + 1)).size + 1) (by omega)
        rw [show bg ss i + (tV ss i).size + ((tV ss (i + 1)).size + 1) = bg ss (i + 1) + (tV ss (i + 1)).size by omega, row_end ss hi2, hp0 _ h, sy_at _ h] at h3
        omega
      · exact h
      · exfalso
        have h3 := h2 (p.size + 1) (by omega)
        rw [show bg ss i + (tV ss i).size + (p.size + 1) = bg ss (i + 1) + p.size by omega, row_at ss hi2 h, sy_at _ h, hpe] at h3
        omega
    exact ba_ext hsz fun j hj => at2 j hj (by omega)
  · rintro ⟨⟨rfl, hi2⟩, rfl⟩
    have hb2 := bg_lt ss (i := i + 1) (j := ss.length) hi2
    have hbu := bg_up ss i
    refine ⟨by omega, fun j hj => ?_⟩
    by_cases e0 : j = 0
    · subst e0
      rw [Nat.add_zero, row_end ss hi]; rfl
    · obtain ⟨j, rfl⟩ : ∃ m, j = m + 1 := ⟨j - 1, by omega⟩
      by_cases e1 : j < (tV ss (i + 1)).size
      · rw [show bg ss i + (tV ss i).size + (j + 1) = bg ss (i + 1) + j by omega, row_at ss hi2 e1, hp0 j e1]
      · obtain rfl : j = (tV ss (i + 1)).size := by omega
        rw [show bg ss i + (tV ss i).size + ((tV ss (i + 1)).size + 1) = bg ss (i + 1) + (tV ss (i + 1)).size by omega, row_end ss hi2, hpe]
/-- The first text, if it is p, and those behind an end with p behind. -/
def eqF (ss : List ByteArray) (p : ByteArray) : List Int := (if 0 < ss.length ∧ tV ss 0 = p then [0] else []) ++ (fndL (rowV ss) (0 :: (sy p ++ [0]))).map fun q => (tx ss q.toNat : Int) + 1
theorem eqF_eq (ss : List ByteArray) (p : ByteArray) : eqF ss p = eqV ss p := by
  have key : ∀ x : Int, x ∈ (fndL (rowV ss) (0 :: (sy p ++ [0]))).map (fun q => (tx ss q.toNat : Int) + 1) ↔ ∃ i : Nat, x = (i : Int) + 1 ∧ i + 1 < ss.length ∧ tV ss (i + 1) = p := by
    intro x
    simp only [List.mem_map, fnd_is']
    constructor
    · rintro ⟨y, ⟨q, rfl, h1, h2⟩, rfl⟩
      have hlt : q < (rowV ss).length := by
        have := ((st_at _ _).1 h2).1
        rw [List.length_cons] at this
        omega
      obtain ⟨k1, k2, k3⟩ := tx_ok hlt
      rw [bg_up] at k3
      rw [show q = bg ss (tx ss q) + (q - bg ss (tx ss q)) by omega, st_eq ss p k1 (by omega)] at h2
      simp only [Bool.and_eq_true, decide_eq_true_eq] at h2
      rw [Int.toNat_natCast]
      exact ⟨_, rfl, h2.1.2, h2.2⟩
    · rintro ⟨i, rfl, hi2, hp⟩
      have hi : i < ss.length := by omega
      have hb := bg_lt ss (i := i) (j := ss.length) hi
      refine ⟨((bg ss i + (tV ss i).size : Nat) : Int), ⟨_, rfl, by rw [row_len]; omega, by rw [st_eq ss p hi (Nat.le_refl _)]; simp [hi2, hp]⟩, ?_⟩
      rw [Int.toNat_natCast, tx_eq hi (by omega) (by rw [bg_up]; omega)]
  unfold eqF
  refine asc_eq _ _ ?_ (filt_asc _ _) ?_
  · rw [List.pairwise_append]
    refine ⟨by split <;> simp, ?_, fun a ha b hb => ?_⟩
    · rw [List.pairwise_map]
      refine List.Pairwise.imp_of_mem ?_ (fndL_pw (rowV ss) (0 :: (sy p ++ [0])))
      intro a b ha hb hab
      obtain ⟨q, rfl, h1, h2⟩ := fnd_is'.1 ha
      obtain ⟨r, rfl, h3, h4⟩ := fnd_is'.1 hb
      have ql : q < (rowV ss).length := by have := ((st_at _ _).1 h2).1; rw [List.length_cons] at this; omega
      have rl : r < (rowV ss).length := by have := ((st_at _ _).1 h4).1; rw [List.length_cons] at this; omega
      obtain ⟨a1, a2, a3⟩ := tx_ok ql
      obtain ⟨b1, b2, b3⟩ := tx_ok rl
      have hm := tx_mono ss (q := q) (q' := r) (by omega)
      rw [bg_up] at a3 b3
      rw [show q = bg ss (tx ss q) + (q - bg ss (tx ss q)) by omega, st_eq ss p a1 (by omega)] at h2
      rw [show r = bg ss (tx ss r) + (r - bg ss (tx ss r)) by omega, st_eq ss p b1 (by omega)] at h4
      simp only [Bool.and_eq_true, decide_eq_true_eq] at h2 h4
      rw [Int.toNat_natCast, Int.toNat_natCast]
      have : tx ss q ≠ tx ss r := by
        intro e
        have e1 := h2.1.1
        have e2 := h4.1.1
        rw [e] at e1 a2 a3
        omega
      omega
    · have : a = 0 := by
        split at ha
        · exact List.mem_singleton.1 ha
        · exact absurd ha (by simp)
      obtain ⟨i, rfl, -⟩ := (key b).1 hb
      omega
  · intro x
    rw [List.mem_append, key, eq_mem]
    constructor
    · rintro (h | ⟨i, rfl, h1, h2⟩)
      · split at h
        · rename_i hc
          exact ⟨0, List.mem_singleton.1 h, hc.1, hc.2⟩
        · exact absurd h (by simp)
      · exact ⟨i + 1, by omega, h1, h2⟩
    · rintro ⟨i, rfl, h1, h2⟩
      cases i with
      | zero => left; rw [if_pos ⟨h1, h2⟩]; simp
      | succ i => right; exact ⟨i, by omega, h1, h2⟩

end Go.Proofs.YtpnjccomngdblaaGreat
end

section
/- Texts of which their transform is kept, in memory; Len, begin, text, told. -/
set_option maxRecDepth 100000
namespace Go.Proofs.YtpnjccomngdblaaGreat
open Go.RowKit
open M
attribute [local go_sem ↓] Go.wp_at_zero Go.wp_at_succ

/-- The FM of the row of texts, and where the ends stand. -/
structure VI (w : World) (F : FQ) (E : Option Addr) (ss : List ByteArray) : Prop where
  fm : FMI w F (rowV ss) 257
  en : NumsAt .i64 w E (endV ss)
variable {w u w' : World} {b c : Nat} {F : FQ} {E : Option Addr} {ss : List ByteArray}
theorem VI.kept (h : VI w F E ss) (hb : Below w.heap.size w w') : VI w' F E ss := ⟨h.fm.kept hb, h.en.kept hb⟩
theorem VI.few (h : VI w F E ss) : bg ss ss.length ≤ 1000 := by have := h.fm.len; rwa [row_len] at this
/-- A boxed one in a call that entered at w. -/
structure VX (w : World) (b : Nat) (F : FQ) (E : Option Addr) (c : Nat) (ss : List ByteArray) (u : World) : Prop where
  box : MBx u b F
  c17 : u.cell? ⟨b, 17, none⟩ = some (.slice E ss.length c)
  vi : VI u F E ss
  bel : Below w.heap.size w u
theorem VX.kept {u' : World} (h : VX w b F E c ss u) (hb : Below u.heap.size u u') : VX w b F E c ss u' :=
  ⟨h.box.kept hb, by rw [hb.cell (p := ⟨b, 17, none⟩) h.box.lt]; exact h.c17, h.vi.kept hb, h.bel.trans (hb.mono h.bel.size)⟩
theorem VX.drew (h : VX w b F E c ss u) : VX w b F E c ss u.drew := h.kept ((Below.refl _ _).drew)
theorem VX.mx (h : VX w b F E c ss u) : MX w b F (rowV ss) 257 u := ⟨h.box, h.vi.fm, h.bel⟩
theorem VX.boxed (h : VI u F E ss) (hb : Below w.heap.size w u) : VX w u.heap.size F E c ss (u.alloc (.cells #[.int .i64 (F.N : Int), .int .i64 F.Z, .slice F.wa F.wW F.wc, .int .i64 (F.R.n : Int), .slice F.R.a F.R.m F.R.c, .int .i64 (F.R.cn : Int), .int .i64 (F.R.cW : Int), .int .i64 (F.R.cL : Int), .slice F.R.a2 F.R.m2 F.R.c2, .int .i64 (F.S.n : Int), .int .i64 (F.S.W : Int), .int .i64 (F.S.L : Int), .slice F.S.a F.S.m F.S.c, .int .i64 (F.P.n : Int), .int .i64 (F.P.W : Int), .int .i64 (F.P.L : Int), .slice F.P.a F.P.m F.P.c, .slice E ss.length c] 40)) :=
  ⟨⟨by simp, by simp, by simp, by simp, by simp, by simp, by simp, by simp, by simp, by simp, by simp, by simp, by simp, by simp, by simp, by simp, by simp⟩, by simp, h.kept (al u _), hb.alloc hb.size _⟩
theorem VX.new (h : VI w F E ss) : VX w w.heap.size F E c ss (w.alloc (.cells #[.int .i64 (F.N : Int), .int .i64 F.Z, .slice F.wa F.wW F.wc, .int .i64 (F.R.n : Int), .slice F.R.a F.R.m F.R.c, .int .i64 (F.R.cn : Int), .int .i64 (F.R.cW : Int), .int .i64 (F.R.cL : Int), .slice F.R.a2 F.R.m2 F.R.c2, .int .i64 (F.S.n : Int), .int .i64 (F.S.W : Int), .int .i64 (F.S.L : Int), .slice F.S.a F.S.m F.S.c, .int .i64 (F.P.n : Int), .int .i64 (F.P.W : Int), .int .i64 (F.P.L : Int), .slice F.P.a F.P.m F.P.c, .slice E ss.length c] 40)) := VX.boxed h (Below.refl _ _)
theorem VX.range (h : VX w b F E c ss u) : u.rangeAt b 0 [.int .i64 (F.N : Int), .int .i64 F.Z, .slice F.wa F.wW F.wc, .int .i64 (F.R.n : Int), .slice F.R.a F.R.m F.R.c, .int .i64 (F.R.cn : Int), .int .i64 (F.R.cW : Int), .int .i64 (F.R.cL : Int), .slice F.R.a2 F.R.m2 F.R.c2, .int .i64 (F.S.n : Int), .int .i64 (F.S.W : Int), .int .i64 (F.S.L : Int), .slice F.S.a F.S.m F.S.c, .int .i64 (F.P.n : Int), .int .i64 (F.P.W : Int), .int .i64 (F.P.L : Int), .slice F.P.a F.P.m F.P.c, .slice E ss.length c] := by
  intro j v hj
  have hr := h.box.range
  have h17 := h.c17
  by_cases e : j < 17
  · refine hr j v ?_
    rw [← hj]
    match j, e with
    | 0, _ => rfl
    | 1, _ => rfl
    | 2, _ => rfl
    | 3, _ => rfl
    | 4, _ => rfl
    | 5, _ => rfl
    | 6, _ => rfl
    | 7, _ => rfl
    | 8, _ => rfl
    | 9, _ => rfl
    | 10, _ => rfl
    | 11, _ => rfl
    | 12, _ => rfl
    | 13, _ => rfl
    | 14, _ => rfl
    | 15, _ => rfl
    | 16, _ => rfl
    | j + 17, e => omega
  · obtain ⟨k, rfl⟩ : ∃ k, j = k + 17 := ⟨j - 17, by omega⟩
    rw [Nat.zero_add]
    match k, hj with
    | 0, hj => cases hj; exact h17
    | k + 1, hj => simp at hj
/-- The whole of a box as one step of a walk. -/
theorem load40 {ops : Array Oper} {rest : List Oper} {op : Oper} {a : Act} {Q : Exit → Act → World → Prop} (h : VX w' b F E c ss u) (x : Operand) (ho : op.op = .load 40 x) (hw : Region.wanted op (yielded ops a.tmps) = true)
    (hx : a.eval x = .pointer (some ⟨b, 0, none⟩)) (k : wpList Tryz.prog ops Q rest (a.put op.dst (.agg #[.int .i64 (F.N : Int), .int .i64 F.Z, .slice F.wa F.wW F.wc, .int .i64 (F.R.n : Int), .slice F.R.a F.R.m F.R.c, .int .i64 (F.R.cn : Int), .int .i64 (F.R.cW : Int), .int .i64 (F.R.cL : Int), .slice F.R.a2 F.R.m2 F.R.c2, .int .i64 (F.S.n : Int), .int .i64 (F.S.W : Int), .int .i64 (F.S.L : Int), .slice F.S.a F.S.m F.S.c, .int .i64 (F.P.n : Int), .int .i64 (F.P.W : Int), .int .i64 (F.P.L : Int), .slice F.P.a F.P.m F.P.c, .slice E ss.length c])) u) : wpList Tryz.prog ops Q (op :: rest) a u :=
  wpList_step fun K hK => by
    rw [if_pos hw]
    exact wp_load_mid 40 x ho b 0 hx _ _ h.range Tryz.underlying40 rfl (by kernel_rfl) (hK _ _ k)

/-! ## Len, begin -/
theorem vlen_any (F : FQ) (E : Option Addr) (n c : Nat) (u : World) : Calls Tryz.prog 22 #[.agg #[.int .i64 (F.N : Int), .int .i64 F.Z, .slice F.wa F.wW F.wc, .int .i64 (F.R.n : Int), .slice F.R.a F.R.m F.R.c, .int .i64 (F.R.cn : Int), .int .i64 (F.R.cW : Int), .int .i64 (F.R.cL : Int), .slice F.R.a2 F.R.m2 F.R.c2, .int .i64 (F.S.n : Int), .int .i64 (F.S.W : Int), .int .i64 (F.S.L : Int), .slice F.S.a F.S.m F.S.c, .int .i64 (F.P.n : Int), .int .i64 (F.P.W : Int), .int .i64 (F.P.L : Int), .slice F.P.a F.P.m F.P.c, .slice E n c]] u fun e u' => e = .returned (.int .i64 (n : Int)) ∧ Below u.heap.size u u' := by
  go_enter Tryz.func22, Tryz.ntmps22
  go_wp2
  go_ret
  exact ⟨rfl, al u _⟩
theorem begin_v (i : Nat) (h : VI u F E ss) (hi : i < ss.length) : Calls Tryz.prog 37 #[.agg #[.int .i64 (F.N : Int), .int .i64 F.Z, .slice F.wa F.wW F.wc, .int .i64 (F.R.n : Int), .slice F.R.a F.R.m F.R.c, .int .i64 (F.R.cn : Int), .int .i64 (F.R.cW : Int), .int .i64 (F.R.cL : Int), .slice F.R.a2 F.R.m2 F.R.c2, .int .i64 (F.S.n : Int), .int .i64 (F.S.W : Int), .int .i64 (F.S.L : Int), .slice F.S.a F.S.m F.S.c, .int .i64 (F.P.n : Int), .int .i64 (F.P.W : Int), .int .i64 (F.P.L : Int), .slice F.P.a F.P.m F.P.c, .slice E ss.length c], .int .i64 (i : Int)] u fun e u' => e = .returned (.int .i64 (bg ss i : Nat)) ∧ Below u.heap.size u u' := by
  have hf := h.few
  have hlb := len_bg ss ss.length
  have hl9 : ss.length ≤ 1000 := by omega
  cases i with
  | zero =>
    go_enter Tryz.func37, Tryz.ntmps37
    go_wp2
    go_ret
    exact ⟨rfl, al u _⟩
  | succ j =>
    have hA : VX u u.heap.size F E c ss _ := VX.new h
    obtain ⟨b, off, hE, hbl, hc⟩ := num_at hA.vi.en (i := j) (by rw [end_len]; omega)
    rw [end_at ss (by omega)] at hc
    have x17 := hA.c17
    have hb := hA.bel
    have hbm := bg_mono ss (i := j + 1) (j := ss.length) (by omega)
    obtain ⟨t, ht⟩ : ∃ t, bg ss (j + 1) = t := ⟨_, rfl⟩
    have hbu := bg_up ss j
    obtain ⟨n, hn⟩ : ∃ n, ss.length = n := ⟨_, rfl⟩
    rw [hn] at hi hl9
    rw [ht] at hbu hbm ⊢
    obtain ⟨x, hx⟩ : ∃ x, bg ss j + (tV ss j).size = x := ⟨_, rfl⟩
    rw [hx] at hc
    subst hE
    have q1 : IntKind.i64.wrap (((j + 1 : Nat) : Int) - 1) = (j : Int) := by rw [show ((j + 1 : Nat) : Int) - 1 = (j : Int) by omega]; exact IntWalk.i64_in _ (by omega)
    have q2 : IntKind.i64.wrap ((x : Int) + 1) = (t : Int) := by rw [show (x : Int) + 1 = (t : Int) by omega]; exact IntWalk.i64_in _ (by omega)
    have q3 : (j : Int) < (n : Int) := by omega
    have q4 : (0 : Int) ≤ (j : Int) := by omega
    have q5 : (((j + 1 : Nat) : Int) == 0) = false := by simp; omega
    simp only [hn] at x17 hc hb ⊢
    have HB := Lib.hid hb
    clear hA hf hlb hbm ht hbu hx hn hb h
    go_enter Tryz.func37, Tryz.ntmps37
    go_wp2
    go_ret
    exact ⟨rfl, HB.out⟩

/-! ## text -/
set_option maxHeartbeats 4000000 in
theorem text_v (q : Nat) (h : VI u F E ss) (hq : q < bg ss ss.length) : Calls Tryz.prog 39 #[.agg #[.int .i64 (F.N : Int), .int .i64 F.Z, .slice F.wa F.wW F.wc, .int .i64 (F.R.n : Int), .slice F.R.a F.R.m F.R.c, .int .i64 (F.R.cn : Int), .int .i64 (F.R.cW : Int), .int .i64 (F.R.cL : Int), .slice F.R.a2 F.R.m2 F.R.c2, .int .i64 (F.S.n : Int), .int .i64 (F.S.W : Int), .int .i64 (F.S.L : Int), .slice F.S.a F.S.m F.S.c, .int .i64 (F.P.n : Int), .int .i64 (F.P.W : Int), .int .i64 (F.P.L : Int), .slice F.P.a F.P.m F.P.c, .slice E ss.length c], .int .i64 (q : Int)] u fun e u' => e = .returned (.int .i64 (tx ss q : Nat)) ∧ Below u.heap.size u u' := by
  have hf := h.few
  have hlb := len_bg ss ss.length
  obtain ⟨hi1, hi2, hi3⟩ := tx_ok (ss := ss) (q := q) (by rw [row_len]; exact hq)
  obtain ⟨i0, hi0⟩ : ∃ i0, tx ss q = i0 := ⟨_, rfl⟩
  rw [hi0] at hi1 hi2 hi3 ⊢
  have hA : VX u u.heap.size F E c ss _ := VX.new h
  have hE : ∃ bb off, E = some ⟨bb, off, none⟩ ∧ ∀ j, j < ss.length → (u.alloc (.cells #[.int .i64 (F.N : Int), .int .i64 F.Z, .slice F.wa F.wW F.wc, .int .i64 (F.R.n : Int), .slice F.R.a F.R.m F.R.c, .int .i64 (F.R.cn : Int), .int .i64 (F.R.cW : Int), .int .i64 (F.R.cL : Int), .slice F.R.a2 F.R.m2 F.R.c2, .int .i64 (F.S.n : Int), .int .i64 (F.S.W : Int), .int .i64 (F.S.L : Int), .slice F.S.a F.S.m F.S.c, .int .i64 (F.P.n : Int), .int .i64 (F.P.W : Int), .int .i64 (F.P.L : Int), .slice F.P.a F.P.m F.P.c, .slice E ss.length c] 40)).cell? ⟨bb, off + j, none⟩ = some (.int .i64 (((bg ss (j + 1) - 1 : Nat)) : Int)) := by
    rcases hA.vi.en with e | ⟨bb, off, e, _, hc⟩
    · exfalso
      have := end_len ss
      rw [e] at this
      simp at this
      omega
    · refine ⟨bb, off, e, fun j hj => ?_⟩
      rw [hc j (by rw [end_len]; exact hj), end_at ss hj, bg_up, Nat.add_sub_cancel]
  obtain ⟨bb, off, hEe, hcs⟩ := hE
  have x17 := hA.c17
  have hb := hA.bel
  obtain ⟨n, hn⟩ : ∃ n, ss.length = n := ⟨_, rfl⟩
  simp only [hn] at hi1 hlb hf hcs x17 hb ⊢
  have hn1 : n ≤ 1000 := by omega
  have hqn : q ≤ 1000 := by rw [hn] at hq; omega
  have hK := fun (m : Nat) => bg_mono ss (i := m + 1) (j := i0)
  have hK2 := fun (m : Nat) => bg_mono ss (i := i0 + 1) (j := m + 1)
  have hK3 := fun (m : Nat) (hm : m < n) => bg_mono ss (i := m + 1) (j := n) (by omega)
  have hK4 := fun (m : Nat) => bg_up ss m
  have HB := Lib.hid (And.intro hb (And.intro hi2 (And.intro hi3 (And.intro hK (And.intro hK2 (And.intro hf (And.intro hK3 hK4)))))))
  have HC := Lib.hid hcs
  subst hEe
  have q0 : IntKind.i64.wrap ((n : Int) - 1) = ((n - 1 : Nat) : Int) := by rw [show (n : Int) - 1 = ((n - 1 : Nat) : Int) by omega]; exact IntWalk.i64_in _ (by omega)
  clear hA hb hi2 hi3 hK hK2 hK3 hK4 hf hcs hn hi0 hq hlb h
  go_enter Tryz.func39, Tryz.ntmps39
  go_upto_region 1 with fail
  obtain ⟨w1, hw1⟩ : ∃ w1, u.alloc (.cells #[.int .i64 (F.N : Int), .int .i64 F.Z, .slice F.wa F.wW F.wc, .int .i64 (F.R.n : Int), .slice F.R.a F.R.m F.R.c, .int .i64 (F.R.cn : Int), .int .i64 (F.R.cW : Int), .int .i64 (F.R.cL : Int), .slice F.R.a2 F.R.m2 F.R.c2, .int .i64 (F.S.n : Int), .int .i64 (F.S.W : Int), .int .i64 (F.S.L : Int), .slice F.S.a F.S.m F.S.c, .int .i64 (F.P.n : Int), .int .i64 (F.P.W : Int), .int .i64 (F.P.L : Int), .slice F.P.a F.P.m F.P.c, .slice (some ⟨bb, off, none⟩) n c] 40) = w1 := ⟨_, rfl⟩
  rw [hw1] at x17 HB HC
  simp only [hw1]
  clear hw1
  obtain ⟨bx, hbx⟩ : ∃ bx, u.heap.size = bx := ⟨_, rfl⟩
  rw [hbx] at x17
  simp only [hbx]
  clear hbx
  go_step3
  go_wp2
  go_quiet (fail)
  obtain ⟨w2, hw2⟩ : ∃ w2, w1.drewN nq = w2 := ⟨_, rfl⟩
  have x17' : w2.cell? ⟨bx, 17, none⟩ = some (.slice (some ⟨bb, off, none⟩) n c) := by rw [← hw2]; exact x17
  have hcs' : ∀ j, j < n → w2.cell? ⟨bb, off + j, none⟩ = some (.int .i64 (((bg ss (j + 1) - 1 : Nat)) : Int)) := fun j hj => by rw [← hw2]; exact HC.out j hj
  have hbel : Below u.heap.size u w2 := by rw [← hw2]; exact HB.out.1.trans ((below_drN w1 nq).mono HB.out.1.size)
  have HC2 := Lib.hid (And.intro hcs' hbel)
  simp only [hw2]
  clear hw2 x17 hcs' hbel
  go_wp2
  go_step3
  go_wp2
  go_loopw [5, 6, 7, 20, 30] (fun v5 v6 _ _ _ wr => ∃ lo hi : Nat, lo ≤ i0 ∧ i0 ≤ hi ∧ hi < n ∧ v5 = .int .i64 (lo : Int) ∧ v6 = .int .i64 (hi : Int) ∧ wr = w2) (fun v5 v6 _ _ _ _ => (intOf v6).toNat - (intOf v5).toNat)
  case atStart => exact ⟨0, n - 1, by omega, by omega, by omega, rfl, rfl, rfl⟩
  case round =>
    obtain ⟨a, z, ha, hz, hzn, rfl, rfl, rfl⟩ := hrel
    by_cases hlt : a < z
    · obtain ⟨m, hm⟩ : ∃ m, (a + z) / 2 = m := ⟨_, rfl⟩
      have hm1 : a ≤ m := by omega
      have hm2 : m < z := by omega
      have hc := HC2.out.1 m (by omega)
      obtain ⟨-, h2, h3, hK, hK2, hf, hK3, hK4⟩ := HB.out
      have k1 := hK m
      have k2 := hK2 m
      have k3 := hK3 m (by omega)
      have k4 := hK4 m
      have k5 := bg_mono ss (i := m) (j := i0)
      have k6 := bg_mono ss (i := i0) (j := m)
      obtain ⟨x, hx⟩ : ∃ x, bg ss (m + 1) - 1 = x := ⟨_, rfl⟩
      rw [hx] at hc
      have q1 : (a : Int) < (z : Int) := by omega
      have q2 : IntKind.i64.wrap ((a : Int) + (z : Int)) = (a : Int) + (z : Int) := IntWalk.i64_in _ (by omega)
      have q3 : ((a : Int) + (z : Int)).tdiv 2 = (m : Int) := by rw [Int.tdiv_eq_ediv_of_nonneg (by omega)]; omega
      have q4 : (m : Int) < (n : Int) := by omega
      have q5 : (0 : Int) ≤ (m : Int) := by omega
      have q6 : IntKind.i64.wrap ((m : Int) + 1) = ((m + 1 : Nat) : Int) := by rw [Int.natCast_add]; exact IntWalk.i64_in _ (by omega)
      have q7 : IntKind.i64.wrap (m : Int) = (m : Int) := IntWalk.i64_in _ (by omega)
      rcases Nat.lt_trichotomy x q with hxq | hxq | hxq
      · have q8 : (x : Int) < (q : Int) := by omega
        have r1 : m + 1 ≤ i0 := by
          apply Classical.byContradiction; intro hc'
          have := k2 (by omega); omega
        clear k1 k2 k3 k4 k5 k6 h2 h3 hK hK2 hf hK3 hK4 hx hm
        go_wp2
        go_roundw
        case rel => exact ⟨m + 1, z, r1, hz, hzn, by go_num, rfl, by first | rfl | trivial⟩
        case measure => simp [intOf]; omega
      · have q8 : ¬ (x : Int) < (q : Int) := by omega
        have q9 : ¬ (q : Int) < (x : Int) := by omega
        have r1 : m = i0 := by
          apply Classical.byContradiction; intro hc'
          rcases Nat.lt_or_gt_of_ne hc' with hh | hh
          · have := k1 (by omega); omega
          · have := bg_mono ss (i := i0 + 1) (j := m) (by omega); omega
        have HR := Lib.hid r1
        clear k1 k2 k3 k4 k5 k6 h2 h3 hK hK2 hf hK3 hK4 hx hm r1
        go_wp2
        try go_step3
        try go_wp2
        try rw [Exit.noGoto_ret]
        go_ret
        exact ⟨by rw [← HR.out]; rfl, HC2.out.2⟩
      · have q8 : ¬ (x : Int) < (q : Int) := by omega
        have q9 : (q : Int) < (x : Int) := by omega
        have r1 : i0 ≤ m := by
          apply Classical.byContradiction; intro hc'
          have := k1 (by omega); omega
        clear k1 k2 k3 k4 k5 k6 h2 h3 hK hK2 hf hK3 hK4 hx hm
        go_wp2
        go_roundw
        case rel => exact ⟨a, m, ha, r1, by omega, rfl, by go_num, by first | rfl | trivial⟩
        case measure => simp [intOf]; omega
    · have q1 : ¬ (a : Int) < (z : Int) := by omega
      have r1 : a = i0 := by omega
      subst r1
      go_wp2
      try rw [Exit.noGoto_ret]
      go_ret
      exact ⟨rfl, HC2.out.2⟩

end Go.Proofs.YtpnjccomngdblaaGreat
end

section
/- The contract of told. -/
set_option maxRecDepth 100000
namespace Go.Proofs.YtpnjccomngdblaaGreat
open Go.RowKit
open M
attribute [local go_sem ↓] Go.wp_at_zero Go.wp_at_succ

/-- Bytes of the call's own. -/
structure DB (w : World) (D n : Nat) (d : Nat → Nat) (u : World) : Prop where
  cell : ∀ i, i < n → u.cell? ⟨D, i, none⟩ = some (.int .u8 (d i : Int))
  frz : ∀ i, i < n → u.frozen? ⟨D, i, none⟩ = false
  lo : w.heap.size ≤ D
  hi : D < u.heap.size
  bel : Below w.heap.size w u
theorem DB.kept {w u u' : World} {D n : Nat} {d : Nat → Nat} (h : DB w D n d u) (hb : Below u.heap.size u u') : DB w D n d u' :=
  ⟨fun i hi => by rw [hb.cell (p := ⟨D, i, none⟩) h.hi]; exact h.cell i hi, fun i hi => by rw [hb.frozen (p := ⟨D, i, none⟩) h.hi]; exact h.frz i hi, h.lo, Nat.lt_of_lt_of_le h.hi hb.size, h.bel.trans (hb.mono h.bel.size)⟩
theorem DB.set {w u : World} {D n : Nat} {d : Nat → Nat} (h : DB w D n d u) (i : Nat) (x : Nat) : DB w D n (fun k => if k = i then x else d k) (u.setCell ⟨D, i, none⟩ (.int .u8 (x : Int))) := by
  refine ⟨fun k hk => ?_, fun k hk => by simpa using h.frz k hk, h.lo, by simpa using h.hi, h.bel.setCell h.lo _⟩
  rw [cell_set _ _ _ _ _ _ (h.cell k hk)]
  by_cases e : k = i
  · simp [e]
  · simp [e]
theorem DB.congr {w u : World} {D n : Nat} {d d' : Nat → Nat} (h : DB w D n d u) (hd : ∀ i, i < n → d i = d' i) : DB w D n d' u := { h with cell := fun i hi => by rw [← hd i hi]; exact h.cell i hi }
theorem DB.made {w w1 u : World} {n : Nat} (hb : Below w.heap.size w w1) (hown : u.ownsRow w1.heap.size 5 1 (.slice (some ⟨w1.heap.size, 0, none⟩) n n) n (madeCells #[Value.int .u8 0] n).toList) (hgrow : w1.grownBy u none) : DB w w1.heap.size n (fun _ => 0) u := by
  have hg := hown.lt w1.heap.size rfl
  refine ⟨fun i hi => ?_, fun i _ => hown.frozenAt i, hb.size, hg.2, hb.trans ((below_grown hgrow).mono hb.size)⟩
  rw [hown.cellAt i (by omega)]
  simp [madeCells, hi, Nat.mod_one]
theorem DB.text {w u : World} {D n : Nat} {t : ByteArray} (h : DB w D n (fun k => (t.data.toList.getD k 0).toNat) u) (ht : t.size = n) (cp : Nat) : (convert 69 9 (.slice (some ⟨D, 0, none⟩) n cp)).run Tryz.prog u = .ok (.string t) u := by
  have hl : t.data.toList.length = n := by rw [ba_len]; exact ht
  have := run_convert_bytes_back (P := Tryz.prog) u 69 9 5 ⟨D, 0, none⟩ cp t.data.toList Tryz.underlying69 Tryz.underlying5 Tryz.underlying9 (fun j hj => by
    rw [Addr.add_mid, Nat.zero_add, h.cell j (by omega), List.getD_eq_getElem?_getD, List.getElem?_eq_getElem hj, Option.getD_some])
  rw [hl] at this
  exact this

variable {w u w' : World} {b c : Nat} {F : FQ} {E : Option Addr} {ss : List ByteArray}
/-- What is held while the bytes are written. -/
structure TD (u : World) (D n : Nat) (d : Nat → Nat) (X : Nat) (t : ByteArray) (wr : World) : Prop where
  db : DB u D n d wr
  nums : ∀ i, i < n → wr.cell? ⟨X, i, none⟩ = some (.int .i64 ((sy t).getD i 0))
  ne : 0 < n → X ≠ D
theorem TD.set {u wr : World} {D n : Nat} {d : Nat → Nat} {X : Nat} {t : ByteArray} (h : TD u D n d X t wr) (i : Nat) (x : Nat) : TD u D n (fun k => if k = i then x else d k) X t (wr.setCell ⟨D, i, none⟩ (.int .u8 (x : Int))) :=
  ⟨h.db.set i x, fun j hj => by rw [World.cell?_setCell_other _ _ _ _ (fun e => h.ne (by omega) (congrArg Addr.block e).symm)]; exact h.nums j hj, h.ne⟩
/-- The bytes that are written. -/
def tbN (t : ByteArray) (k : Nat) : Nat → Nat := fun j => if j < k then (t.data.toList.getD j 0).toNat else 0
theorem tbN_set (t : ByteArray) (k : Nat) : (fun j => if j = k then (t.data.toList.getD k 0).toNat else tbN t k j) = tbN t (k + 1) := by
  funext j
  unfold tbN
  by_cases e : j = k
  · subst e; simp
  · by_cases h : j < k
    · rw [if_neg e, if_pos h, if_pos (by omega)]
    · rw [if_neg e, if_neg h, if_neg (by omega)]
theorem byte_back (t : ByteArray) {k : Nat} (h : k < t.size) : ∃ x : Nat, (sy t).getD k 0 = (x : Int) + 1 ∧ (t.data.toList.getD k 0).toNat = x ∧ x < 256 := ⟨_, sy_at t h, rfl, UInt8.toNat_lt _⟩

set_option maxHeartbeats 4000000 in
theorem told_v (q n : Nat) (t : ByteArray) (h : VI u F E ss) (ht : t.size = n) (hx : exL (rowV ss) (q : Int) (n : Int) = sy t) (hn : n ≤ 1000) : Calls Tryz.prog 38 #[.agg #[.int .i64 (F.N : Int), .int .i64 F.Z, .slice F.wa F.wW F.wc, .int .i64 (F.R.n : Int), .slice F.R.a F.R.m F.R.c, .int .i64 (F.R.cn : Int), .int .i64 (F.R.cW : Int), .int .i64 (F.R.cL : Int), .slice F.R.a2 F.R.m2 F.R.c2, .int .i64 (F.S.n : Int), .int .i64 (F.S.W : Int), .int .i64 (F.S.L : Int), .slice F.S.a F.S.m F.S.c, .int .i64 (F.P.n : Int), .int .i64 (F.P.W : Int), .int .i64 (F.P.L : Int), .slice F.P.a F.P.m F.P.c, .slice E ss.length c], .int .i64 (q : Int), .int .i64 (n : Int)] u fun e u' => e = .returned (.string t) ∧ Below u.heap.size u u' := by
  have hA : VX u u.heap.size F E c ss _ := VX.new h
  have HA := Lib.hid hA
  have HT := Lib.hid (And.intro ht hx)
  clear hA ht hx h
  obtain ⟨i0, hi, hz0, hz1, hz2⟩ := info_parts info5
  go_enter Tryz.func38, Tryz.ntmps38
  go_upto_region 1 with fail
  obtain ⟨w1, hw1⟩ : ∃ w1, u.alloc (.cells #[.int .i64 (F.N : Int), .int .i64 F.Z, .slice F.wa F.wW F.wc, .int .i64 (F.R.n : Int), .slice F.R.a F.R.m F.R.c, .int .i64 (F.R.cn : Int), .int .i64 (F.R.cW : Int), .int .i64 (F.R.cL : Int), .slice F.R.a2 F.R.m2 F.R.c2, .int .i64 (F.S.n : Int), .int .i64 (F.S.W : Int), .int .i64 (F.S.L : Int), .slice F.S.a F.S.m F.S.c, .int .i64 (F.P.n : Int), .int .i64 (F.P.W : Int), .int .i64 (F.P.L : Int), .slice F.P.a F.P.m F.P.c, .slice E ss.length c] 40) = w1 := ⟨_, rfl⟩
  obtain ⟨bx, hbx⟩ : ∃ bx, u.heap.size = bx := ⟨_, rfl⟩
  rw [hw1, hbx] at HA
  simp only [hw1, hbx]
  clear hw1
  have HBX := Lib.hid hbx
  clear hbx
  go_wp2_with (first | (at_make; refine wpList_make_full _ rfl _ _ 69 rfl w1.heap.size 5 i0 (.int .u8 0) 1 Tryz.underlying69 hi hz0 hz1 _ _ _ _ n rfl rfl rfl rfl ?b2 ?b3 (Nat.le_refl _) ?_))
  case b2 => rw [hz2]; omega
  case b3 => unfold maxLen; omega
  intro w2 hown hgrow
  have hD := DB.made HA.out.bel hown hgrow
  have hV := HA.out.kept (below_grown hgrow)
  obtain ⟨D, hDe⟩ : ∃ D, w1.heap.size = D := ⟨_, rfl⟩
  rw [hDe] at hD ⊢
  have hDb : bx < D := by rw [← hDe]; exact HA.out.box.lt
  clear hown hgrow hDe HA
  have HD := Lib.hid (And.intro hD hV)
  clear hD hV
  go_wp2_with (refine load36 HD.out.2.box _ (by with_reducible rfl) rfl rfl ?_)
  (with_reducible refine (extract_mx HD.out.2.mx (q : Int) (n : Int) (by omega) (by omega)).mono ?_)
  rintro e w3 ⟨X, rfl, hX, hb, hM⟩
  have hXl : (exL (rowV ss) (q : Int) (n : Int)).length = n := by rw [HT.out.2, sy_len, HT.out.1]
  rw [hXl]
  rw [HT.out.2] at hX
  have hD3 := HD.out.1.kept hb
  have hT : TD u D n (tbN t 0) X t w3 := by
    refine ⟨hD3.congr (fun i _ => by simp [tbN]), fun i hi => ?_, fun h0 e => ?_⟩
    · rcases hX with e | ⟨b', off, e, _, hc⟩
      · have := sy_len t
        rw [e] at this
        simp at this
        have := HT.out.1
        omega
      · simp only [Option.some.injEq, Addr.mk.injEq, and_true] at e
        obtain ⟨rfl, rfl⟩ := e
        have := hc i (by rw [sy_len, HT.out.1]; exact hi)
        rwa [Nat.zero_add] at this
    · rcases hX with e | ⟨b', off, e', _, hc⟩
      · have := sy_len t
        rw [e] at this
        simp at this
        have := HT.out.1
        omega
      · simp only [Option.some.injEq, Addr.mk.injEq, and_true] at e'
        obtain ⟨rfl, rfl⟩ := e'
        have h1 := hc 0 (by rw [sy_len, HT.out.1]; exact h0)
        rw [Nat.zero_add, e, hD3.cell 0 h0] at h1
        simp at h1
  have HX := Lib.hid hT
  clear hX hb hM hXl hD3 hT HD
  go_wp2
  go_loopw [8, 9, 18] (fun _ _ v18 wr => ∃ k : Nat, k ≤ n ∧ v18 = .int .i64 (k : Int) ∧ TD u D n (tbN t k) X t wr) (fun _ _ v18 _ => n - (intOf v18).toNat)
  case atStart => exact ⟨0, Nat.zero_le _, rfl, HX.out⟩
  case round =>
    obtain ⟨k, hk, rfl, hT⟩ := hrel
    by_cases hlt : k < n
    · obtain ⟨x, hx1, hx2, hx3⟩ := byte_back t (k := k) (by rw [HT.out.1]; exact hlt)
      have c1 := hT.nums k hlt
      rw [hx1] at c1
      have c2 := hT.db.cell k hlt
      have c3 := hT.db.frz k hlt
      have hs := hT.set k x
      rw [← hx2, tbN_set, hx2] at hs
      have HS := Lib.hid hs
      have q1 : (k : Int) < (n : Int) := by omega
      have q2 : (0 : Int) ≤ (k : Int) := by omega
      have q3 : IntKind.i64.wrap ((x : Int) + 1 - 1) = (x : Int) := by rw [show (x : Int) + 1 - 1 = (x : Int) by omega]; exact IntWalk.i64_in _ (by omega)
      have q4 : IntKind.u8.wrap (x : Int) = (x : Int) := by show (x : Int) % 256 = (x : Int); omega
      clear hT hs hx1 hx2
      go_wp2
      go_roundw
      case rel => exact ⟨k + 1, by omega, by go_num, HS.out⟩
      case measure => simp [intOf]; omega
    · obtain rfl : k = n := by omega
      have hcv := (show DB u D k (fun j => (t.data.toList.getD j 0).toNat) wr from hT.db.congr (fun i hi => by unfold tbN; rw [if_pos hi])).text HT.out.1 k
      have HB := Lib.hid hT.db.bel
      have q1 : ¬ (k : Int) < (k : Int) := by omega
      clear hT
      go_wp2
      go_ret
      exact ⟨rfl, HB.out⟩

end Go.Proofs.YtpnjccomngdblaaGreat
end

section
/- The contracts of Part, Get, At, Bytes, FM. -/
set_option maxRecDepth 100000
namespace Go.Proofs.YtpnjccomngdblaaGreat
open Go.RowKit
open M
attribute [local go_sem ↓] Go.wp_at_zero Go.wp_at_succ

variable {w u w' : World} {b c : Nat} {F : FQ} {E : Option Addr} {ss : List ByteArray}
theorem ex_text (ss : List ByteArray) {i f m : Nat} (hi : i < ss.length) (hf : f + m ≤ (tV ss i).size) : exL (rowV ss) ((bg ss i + f : Nat) : Int) (m : Int) = sy ((tV ss i).extract f (f + m)) := by
  have hl := row_len ss
  have hb := bg_lt ss (i := i) (j := ss.length) hi
  have hlo := lo_at (rowV ss).length (bg ss i + f) (by omega)
  have h1 : (exL (rowV ss) ((bg ss i + f : Nat) : Int) (m : Int)).length = m := by rw [exL_len, hlo, Int.toNat_natCast]; omega
  have h2 : (sy ((tV ss i).extract f (f + m))).length = m := by rw [sy_len, ba_ex_size _ hf]; omega
  apply List.ext_getElem (by rw [h1, h2])
  intro j h3 h4
  have e1 := exL_at (rowV ss) ((bg ss i + f : Nat) : Int) (m : Int) (bg ss i + f) m j hlo h1 (by omega)
  have e2 := row_at ss hi (k := f + j) (by omega)
  rw [List.getD_eq_getElem?_getD, List.getElem?_eq_getElem h3, Option.getD_some] at e1
  rw [e1, Nat.add_assoc, e2, sy_at _ (by omega), ← ba_ex_at (tV ss i) (a := f) (b := f + m) (by omega) hf, ← sy_at _ (by rw [ba_ex_size _ hf]; omega), List.getD_eq_getElem?_getD, List.getElem?_eq_getElem h4, Option.getD_some]
theorem VX.hid_begin (h : VX w b F E c ss u) (i : Nat) (hi : i < ss.length) : Calls Tryz.prog 37 #[.agg #[.int .i64 (F.N : Int), .int .i64 F.Z, .slice F.wa F.wW F.wc, .int .i64 (F.R.n : Int), .slice F.R.a F.R.m F.R.c, .int .i64 (F.R.cn : Int), .int .i64 (F.R.cW : Int), .int .i64 (F.R.cL : Int), .slice F.R.a2 F.R.m2 F.R.c2, .int .i64 (F.S.n : Int), .int .i64 (F.S.W : Int), .int .i64 (F.S.L : Int), .slice F.S.a F.S.m F.S.c, .int .i64 (F.P.n : Int), .int .i64 (F.P.W : Int), .int .i64 (F.P.L : Int), .slice F.P.a F.P.m F.P.c, .slice E ss.length c], .int .i64 (i : Int)] u fun e u' => e = .returned (.int .i64 (bg ss i : Nat)) ∧ VX w b F E c ss u' :=
  (begin_v i h.vi hi).mono fun _ _ hh => ⟨hh.1, h.kept hh.2⟩
theorem VX.end_cell (h : VX w b F E c ss u) {i : Nat} (hi : i < ss.length) : ∃ bb off, E = some ⟨bb, off, none⟩ ∧ u.cell? ⟨bb, off + i, none⟩ = some (.int .i64 ((bg ss i + (tV ss i).size : Nat) : Int)) := by
  obtain ⟨bb, off, hE, _, hc⟩ := num_at h.vi.en (i := i) (by rw [end_len]; exact hi)
  rw [end_at ss hi] at hc
  exact ⟨bb, off, hE, hc⟩

set_option maxHeartbeats 4000000 in
theorem part_ok (i : Nat) (f n : Int) (h : VI w F E ss) (hi : i < ss.length) : Calls Tryz.prog 14 #[.agg #[.int .i64 (F.N : Int), .int .i64 F.Z, .slice F.wa F.wW F.wc, .int .i64 (F.R.n : Int), .slice F.R.a F.R.m F.R.c, .int .i64 (F.R.cn : Int), .int .i64 (F.R.cW : Int), .int .i64 (F.R.cL : Int), .slice F.R.a2 F.R.m2 F.R.c2, .int .i64 (F.S.n : Int), .int .i64 (F.S.W : Int), .int .i64 (F.S.L : Int), .slice F.S.a F.S.m F.S.c, .int .i64 (F.P.n : Int), .int .i64 (F.P.W : Int), .int .i64 (F.P.L : Int), .slice F.P.a F.P.m F.P.c, .slice E ss.length c], .int .i64 (i : Int), .int .i64 f, .int .i64 n] w fun e u' => e = .returned (.tuple #[.string (prV (tV ss i) f n), .int .i64 0]) ∧ Below w.heap.size w u' := by
  have hA : VX w w.heap.size F E c ss _ := VX.new h
  have hf := h.few
  have hlb := len_bg ss ss.length
  have hl9 : ss.length ≤ 1000 := by omega
  have x17 := hA.c17
  have hsz := bg_lt ss hi
  have hbn : bg ss i ≤ 1000 := by omega
  have hsn : (tV ss i).size ≤ 1000 := by omega
  obtain ⟨g, hg⟩ : ∃ g, lo (tV ss i).size f = g := ⟨_, rfl⟩
  obtain ⟨m, hm⟩ : ∃ m, min n.toNat ((tV ss i).size - lo (tV ss i).size f) = m := ⟨_, rfl⟩
  have hgl := lo_le (tV ss i).size f
  have hmp : prV (tV ss i) f n = (tV ss i).extract g (g + m) := by unfold prV; rw [hm, hg]
  rw [hg] at hgl hm
  have hx := ex_text ss hi (f := g) (m := m) (by omega)
  have hxs : ((tV ss i).extract g (g + m)).size = m := by rw [ba_ex_size _ (by omega)]; omega
  rw [hmp]
  obtain ⟨T, hT⟩ : ∃ T, (tV ss i).extract g (g + m) = T := ⟨_, rfl⟩
  obtain ⟨s, hs⟩ : ∃ s, (tV ss i).size = s := ⟨_, rfl⟩
  have hg2 : (f < 0 → g = 0) ∧ (0 ≤ f → f ≤ (s : Int) → (g : Int) = f) ∧ ((s : Int) < f → g = s) := by rw [← hs]; unfold lo at hg; omega
  rw [hT] at hx hxs ⊢
  rw [hs] at hgl hm hsn
  have hm2 : (n < 0 → m = 0) ∧ (0 ≤ n → n ≤ (s : Int) - g → (m : Int) = n) ∧ ((s : Int) - g < n → (m : Int) = (s : Int) - g) := by omega
  have hec := fun (u : World) (hu : VX w w.heap.size F E c ss u) => hu.end_cell hi
  rw [hs] at hec
  obtain ⟨q, hq⟩ : ∃ q, bg ss i = q := ⟨_, rfl⟩
  have htd := fun (u : World) (hu : VX w w.heap.size F E c ss u) => told_v (c := c) (bg ss i + g) m T hu.vi hxs hx (by omega)
  have hbg := fun (u : World) (hu : VX w w.heap.size F E c ss u) => hu.hid_begin i hi
  rw [hq] at hec htd hbg hbn
  have HA := Lib.hid hA
  have HC := Lib.hid (And.intro hec (And.intro htd hbg))
  have HG := Lib.hid hg2
  have HM := Lib.hid hm2
  clear hA hf hlb hsz hg hm hmp hx hxs hs hg2 hm2 hec htd hbg hq hT h
  have q1 : ¬ (ss.length : Int) ≤ (i : Int) := by omega
  have q2 : ¬ (i : Int) < 0 := by omega
  have q3 : (i : Int) < (ss.length : Int) := by omega
  have q4 : (0 : Int) ≤ (i : Int) := by omega
  go_enter Tryz.func14, Tryz.ntmps14
  go_upto_region 3 with fail
  obtain ⟨w1, hw1⟩ : ∃ w1, w.alloc (.cells #[.int .i64 (F.N : Int), .int .i64 F.Z, .slice F.wa F.wW F.wc, .int .i64 (F.R.n : Int), .slice F.R.a F.R.m F.R.c, .int .i64 (F.R.cn : Int), .int .i64 (F.R.cW : Int), .int .i64 (F.R.cL : Int), .slice F.R.a2 F.R.m2 F.R.c2, .int .i64 (F.S.n : Int), .int .i64 (F.S.W : Int), .int .i64 (F.S.L : Int), .slice F.S.a F.S.m F.S.c, .int .i64 (F.P.n : Int), .int .i64 (F.P.W : Int), .int .i64 (F.P.L : Int), .slice F.P.a F.P.m F.P.c, .slice E ss.length c] 40) = w1 := ⟨_, rfl⟩
  obtain ⟨bx, hbx⟩ : ∃ bx, w.heap.size = bx := ⟨_, rfl⟩
  rw [hw1, hbx] at HA
  rw [hw1, hbx] at x17
  rw [hbx] at HC
  simp only [hw1, hbx]
  clear hw1
  have q5 : IntKind.i64.wrap (((q + s : Nat) : Int) - (q : Int)) = (s : Int) := by rw [show ((q + s : Nat) : Int) - (q : Int) = (s : Int) by omega]; exact IntWalk.i64_in _ (by omega)
  have q6 : IntKind.i64.wrap ((s : Int) - (g : Int)) = (s : Int) - (g : Int) := IntWalk.i64_in _ (by omega)
  obtain ⟨y, hy⟩ : ∃ y, q + g = y := ⟨_, rfl⟩
  have q7 : IntKind.i64.wrap ((q : Int) + (g : Int)) = (y : Int) := by rw [← hy, Int.natCast_add]; exact IntWalk.i64_in _ (by omega)
  rw [hy] at HC
  go_upto_region 5 with (first | (refine load40 HA.out _ (by with_reducible rfl) rfl rfl ?_) | (go_at_call 37; (with_reducible refine (HC.out.2.2 _ HA.out).mono ?_); rintro e u1 ⟨rfl, hA1⟩; have H1 := Lib.hid hA1; have y17 := hA1.c17; obtain ⟨bb, off, hEe, hce⟩ := HC.out.1 _ hA1; clear hA1 x17; subst hEe))
  clear hce y17
  go_cut [2] from 31 to 34 (fun v2 wx => v2 = .int .i64 (g : Int) ∧ wx = u1)
  case first =>
    go_wp2
    all_goals go_meet
    all_goals
      refine ⟨?_, by first | rfl | trivial⟩
      obtain ⟨f1, f2, f3⟩ := HG.out
      simp only [Value.int.injEq, true_and]
      omega
  case rest =>
    obtain ⟨rfl, rfl⟩ := hcut
    go_upto_region 6 with fail
    go_cut [3] from 35 to 40 (fun v3 wx' => v3 = .int .i64 (m : Int) ∧ wx' = wc)
    case first =>
      go_wp2
      all_goals go_meet
      all_goals
        refine ⟨?_, by first | rfl | trivial⟩
        obtain ⟨f1, f2, f3⟩ := HM.out
        simp only [Value.int.injEq, true_and]
        omega
    case rest =>
      obtain ⟨rfl, rfl⟩ := hcut
      go_wp2_with (refine load40 H1.out _ (by with_reducible rfl) rfl rfl ?_)
      (with_reducible refine (HC.out.2.1 _ H1.out).mono ?_)
      rintro e u2 ⟨rfl, hb⟩
      have HB := Lib.hid (H1.out.bel.trans (hb.mono H1.out.bel.size))
      clear hb
      go_wp2
      go_ret2
      exact ⟨rfl, HB.out⟩

set_option maxHeartbeats 4000000 in
theorem part_no (i : Int) (f n : Int) (E : Option Addr) (l c : Nat) (F : FQ) (hi : i < 0 ∨ (l : Int) ≤ i) : Calls Tryz.prog 14 #[.agg #[.int .i64 (F.N : Int), .int .i64 F.Z, .slice F.wa F.wW F.wc, .int .i64 (F.R.n : Int), .slice F.R.a F.R.m F.R.c, .int .i64 (F.R.cn : Int), .int .i64 (F.R.cW : Int), .int .i64 (F.R.cL : Int), .slice F.R.a2 F.R.m2 F.R.c2, .int .i64 (F.S.n : Int), .int .i64 (F.S.W : Int), .int .i64 (F.S.L : Int), .slice F.S.a F.S.m F.S.c, .int .i64 (F.P.n : Int), .int .i64 (F.P.W : Int), .int .i64 (F.P.L : Int), .slice F.P.a F.P.m F.P.c, .slice E l c], .int .i64 i, .int .i64 f, .int .i64 n] w fun e u' => e = .returned (.tuple #[.string ⟨#[]⟩, .int .i64 13]) ∧ Below w.heap.size w u' := by
  have hb := al w (.cells #[.int .i64 (F.N : Int), .int .i64 F.Z, .slice F.wa F.wW F.wc, .int .i64 (F.R.n : Int), .slice F.R.a F.R.m F.R.c, .int .i64 (F.R.cn : Int), .int .i64 (F.R.cW : Int), .int .i64 (F.R.cL : Int), .slice F.R.a2 F.R.m2 F.R.c2, .int .i64 (F.S.n : Int), .int .i64 (F.S.W : Int), .int .i64 (F.S.L : Int), .slice F.S.a F.S.m F.S.c, .int .i64 (F.P.n : Int), .int .i64 (F.P.W : Int), .int .i64 (F.P.L : Int), .slice F.P.a F.P.m F.P.c, .slice E l c] 40)
  have HB := Lib.hid hb
  clear hb
  by_cases h0 : i < 0
  · clear hi
    go_enter Tryz.func14, Tryz.ntmps14
    go_wp2
    go_ret2
    exact ⟨rfl, HB.out⟩
  · have q1 : (l : Int) ≤ i := by omega
    clear hi
    go_enter Tryz.func14, Tryz.ntmps14
    go_wp2
    go_ret2
    exact ⟨rfl, HB.out⟩

theorem VX.flen (h : VX w b F E c ss u) : Calls Tryz.prog 36 #[.agg #[.int .i64 (F.N : Int), .int .i64 F.Z, .slice F.wa F.wW F.wc, .int .i64 (F.R.n : Int), .slice F.R.a F.R.m F.R.c, .int .i64 (F.R.cn : Int), .int .i64 (F.R.cW : Int), .int .i64 (F.R.cL : Int), .slice F.R.a2 F.R.m2 F.R.c2, .int .i64 (F.S.n : Int), .int .i64 (F.S.W : Int), .int .i64 (F.S.L : Int), .slice F.S.a F.S.m F.S.c, .int .i64 (F.P.n : Int), .int .i64 (F.P.W : Int), .int .i64 (F.P.L : Int), .slice F.P.a F.P.m F.P.c]] u fun e u' => e = .returned (.int .i64 (bg ss ss.length : Nat)) ∧ VX w b F E c ss u' :=
  (flen_any h.vi.fm).mono fun _ _ hh => ⟨by rw [hh.1, row_len], h.kept hh.2⟩
theorem VX.part (h : VX w b F E c ss u) (i : Nat) (f n : Int) (hi : i < ss.length) : Calls Tryz.prog 14 #[.agg #[.int .i64 (F.N : Int), .int .i64 F.Z, .slice F.wa F.wW F.wc, .int .i64 (F.R.n : Int), .slice F.R.a F.R.m F.R.c, .int .i64 (F.R.cn : Int), .int .i64 (F.R.cW : Int), .int .i64 (F.R.cL : Int), .slice F.R.a2 F.R.m2 F.R.c2, .int .i64 (F.S.n : Int), .int .i64 (F.S.W : Int), .int .i64 (F.S.L : Int), .slice F.S.a F.S.m F.S.c, .int .i64 (F.P.n : Int), .int .i64 (F.P.W : Int), .int .i64 (F.P.L : Int), .slice F.P.a F.P.m F.P.c, .slice E ss.length c], .int .i64 (i : Int), .int .i64 f, .int .i64 n] u fun e u' => e = .returned (.tuple #[.string (prV (tV ss i) f n), .int .i64 0]) ∧ VX w b F E c ss u' :=
  (part_ok i f n h.vi hi).mono fun _ _ hh => ⟨hh.1, h.kept hh.2⟩
theorem VX.partNo (h : VX w b F E c ss u) (i : Int) (f n : Int) (hi : i < 0 ∨ (ss.length : Int) ≤ i) : Calls Tryz.prog 14 #[.agg #[.int .i64 (F.N : Int), .int .i64 F.Z, .slice F.wa F.wW F.wc, .int .i64 (F.R.n : Int), .slice F.R.a F.R.m F.R.c, .int .i64 (F.R.cn : Int), .int .i64 (F.R.cW : Int), .int .i64 (F.R.cL : Int), .slice F.R.a2 F.R.m2 F.R.c2, .int .i64 (F.S.n : Int), .int .i64 (F.S.W : Int), .int .i64 (F.S.L : Int), .slice F.S.a F.S.m F.S.c, .int .i64 (F.P.n : Int), .int .i64 (F.P.W : Int), .int .i64 (F.P.L : Int), .slice F.P.a F.P.m F.P.c, .slice E ss.length c], .int .i64 i, .int .i64 f, .int .i64 n] u fun e u' => e = .returned (.tuple #[.string ⟨#[]⟩, .int .i64 13]) ∧ VX w b F E c ss u' :=
  (part_no i f n E ss.length c F hi).mono fun _ _ hh => ⟨hh.1, h.kept hh.2⟩
theorem prV_all (ss : List ByteArray) {i : Nat} (hi : i < ss.length) : prV (tV ss i) 0 (bg ss ss.length : Nat) = tV ss i := by
  have := bg_lt ss hi
  unfold prV
  have e : lo (tV ss i).size 0 = 0 := by unfold lo; omega
  rw [e, Int.toNat_natCast, Nat.min_eq_right (by omega), Nat.zero_add, Nat.sub_zero, ex_all]

set_option maxHeartbeats 4000000 in
theorem get_any (i : Int) (T : ByteArray) (ec : Int) (h : VI w F E ss)
    (hp : ∀ u, VX w w.heap.size F E c ss u → Calls Tryz.prog 14 #[.agg #[.int .i64 (F.N : Int), .int .i64 F.Z, .slice F.wa F.wW F.wc, .int .i64 (F.R.n : Int), .slice F.R.a F.R.m F.R.c, .int .i64 (F.R.cn : Int), .int .i64 (F.R.cW : Int), .int .i64 (F.R.cL : Int), .slice F.R.a2 F.R.m2 F.R.c2, .int .i64 (F.S.n : Int), .int .i64 (F.S.W : Int), .int .i64 (F.S.L : Int), .slice F.S.a F.S.m F.S.c, .int .i64 (F.P.n : Int), .int .i64 (F.P.W : Int), .int .i64 (F.P.L : Int), .slice F.P.a F.P.m F.P.c, .slice E ss.length c], .int .i64 i, .int .i64 0, .int .i64 (bg ss ss.length : Nat)] u fun e u' => e = .returned (.tuple #[.string T, .int .i64 ec]) ∧ VX w w.heap.size F E c ss u') :
    Calls Tryz.prog 13 #[.agg #[.int .i64 (F.N : Int), .int .i64 F.Z, .slice F.wa F.wW F.wc, .int .i64 (F.R.n : Int), .slice F.R.a F.R.m F.R.c, .int .i64 (F.R.cn : Int), .int .i64 (F.R.cW : Int), .int .i64 (F.R.cL : Int), .slice F.R.a2 F.R.m2 F.R.c2, .int .i64 (F.S.n : Int), .int .i64 (F.S.W : Int), .int .i64 (F.S.L : Int), .slice F.S.a F.S.m F.S.c, .int .i64 (F.P.n : Int), .int .i64 (F.P.W : Int), .int .i64 (F.P.L : Int), .slice F.P.a F.P.m F.P.c, .slice E ss.length c], .int .i64 i] w fun e u' => e = .returned (.tuple #[.string T, .int .i64 ec]) ∧ Below w.heap.size w u' := by
  have hA : VX w w.heap.size F E c ss _ := VX.new h
  have HP := Lib.hid hp
  clear hp h
  go_enter Tryz.func13, Tryz.ntmps13
  go_upto_region 1 with fail
  obtain ⟨w1, hw1⟩ : ∃ w1, w.alloc (.cells #[.int .i64 (F.N : Int), .int .i64 F.Z, .slice F.wa F.wW F.wc, .int .i64 (F.R.n : Int), .slice F.R.a F.R.m F.R.c, .int .i64 (F.R.cn : Int), .int .i64 (F.R.cW : Int), .int .i64 (F.R.cL : Int), .slice F.R.a2 F.R.m2 F.R.c2, .int .i64 (F.S.n : Int), .int .i64 (F.S.W : Int), .int .i64 (F.S.L : Int), .slice F.S.a F.S.m F.S.c, .int .i64 (F.P.n : Int), .int .i64 (F.P.W : Int), .int .i64 (F.P.L : Int), .slice F.P.a F.P.m F.P.c, .slice E ss.length c] 40) = w1 := ⟨_, rfl⟩
  obtain ⟨bx, hbx⟩ : ∃ bx, w.heap.size = bx := ⟨_, rfl⟩
  rw [hw1, hbx] at hA
  rw [hbx] at HP
  simp only [hw1, hbx]
  clear hw1
  try simp only [List.append_eq, List.cons_append, List.nil_append]
  refine wp_region_held_drew (S := fun w' => VX w bx F E c ss w') (by kernel_rfl) (hA.drew) (fun hHeld => ?_)
  replace hA := hA.drew
  refine wpAnyH_take (i := 0) (oi := ⟨some 6, _, _, _, _, _⟩) rfl (by kernel_rfl) (by kernel_rfl) (by kernel_rfl) (fun _ _ _ h => h) (yieldsIf_load_mid (by kernel_rfl) 40 _ rfl _ 0 rfl _ _ (fun w hw => VX.range hw) Tryz.underlying40 rfl (by kernel_rfl)) (by assumption) ?_
  try simp only [Act.put, List.setIfInBounds_toArray, List.set_cons_zero, List.set_cons_succ]
  refine wpAnyH_take (i := 1) (oi := ⟨some 7, _, _, _, _, _⟩) (v := ?_) rfl (by kernel_rfl) (by kernel_rfl) (by kernel_rfl) (fun _ _ _ h => h) (Or.inl ⟨by kernel_rfl, ?_⟩) (by assumption) ?_
  case refine_2 => (intro w hSw; go_simp; try (with_reducible rfl))
  try simp only [Act.put, List.setIfInBounds_toArray, List.set_cons_zero, List.set_cons_succ]
  refine wpAnyH_take (i := 2) (oi := ⟨some 8, _, _, _, _, _⟩) (v := ?_) rfl (by kernel_rfl) (by kernel_rfl) (by kernel_rfl) (fun _ _ _ h => h) (Or.inl ⟨by kernel_rfl, ?_⟩) (by assumption) ?_
  case refine_2 => (intro w hSw; go_simp; try (with_reducible rfl))
  try simp only [Act.put, List.setIfInBounds_toArray, List.set_cons_zero, List.set_cons_succ]
  refine wpAnyH_take (i := 3) (oi := ⟨some 9, _, _, _, _, _⟩) rfl (by kernel_rfl) (by kernel_rfl) (by kernel_rfl) (fun _ _ _ h => h) (yieldsIf_load_mid (by kernel_rfl) 37 _ rfl _ 0 rfl _ _ (fun w hw => MBx.range (VX.box hw)) Tryz.underlying37 rfl (by kernel_rfl)) (by assumption) ?_
  try simp only [Act.put, List.setIfInBounds_toArray, List.set_cons_zero, List.set_cons_succ]
  refine wpAnyH_ready (rs := [4]) (by kernel_rfl) (by simp) ?_
  refine AllReadyH.cons rfl (fun K hK => ?_) AllReadyH.nil
  go_simp
  (with_reducible refine (hA.flen).mono ?_)
  rintro e u ⟨rfl, hA'⟩
  replace hA := hA'
  clear hA'
  clear hHeld
  refine hK.out _ _ (hA) (fun hHeld => ?_)
  clear hK K
  try simp only [Act.put, List.setIfInBounds_toArray, List.set_cons_zero, List.set_cons_succ]
  refine wpAnyH_ready (rs := [5]) (by kernel_rfl) (by simp) ?_
  refine AllReadyH.cons rfl (fun K hK => ?_) AllReadyH.nil
  go_simp
  (with_reducible refine (HP.out _ hA).mono ?_)
  rintro e u ⟨rfl, hA'⟩
  replace hA := hA'
  clear hA'
  clear hHeld
  refine hK.out _ _ (hA) (fun hHeld => ?_)
  clear hK K
  try simp only [Act.put, List.setIfInBounds_toArray, List.set_cons_zero, List.set_cons_succ]
  refine wpAnyH_take (i := 6) (oi := ⟨some 12, _, _, _, _, _⟩) (v := ?_) rfl (by kernel_rfl) (by kernel_rfl) (by kernel_rfl) (fun _ _ _ h => h) (Or.inl ⟨by kernel_rfl, ?_⟩) (by assumption) ?_
  case refine_2 => (intro w hSw; go_simp; try (with_reducible rfl))
  try simp only [Act.put, List.setIfInBounds_toArray, List.set_cons_zero, List.set_cons_succ]
  refine wpAnyH_take (i := 7) (oi := ⟨some 13, _, _, _, _, _⟩) (v := ?_) rfl (by kernel_rfl) (by kernel_rfl) (by kernel_rfl) (fun _ _ _ h => h) (Or.inl ⟨by kernel_rfl, ?_⟩) (by assumption) ?_
  case refine_2 => (intro w hSw; go_simp; try (with_reducible rfl))
  try simp only [Act.put, List.setIfInBounds_toArray, List.set_cons_zero, List.set_cons_succ]
  refine wpAnyH_take (i := 8) (oi := ⟨some 4, _, _, _, _, _⟩) (v := ?_) rfl (by kernel_rfl) (by kernel_rfl) (by kernel_rfl) (fun _ _ _ h => h) (Or.inl ⟨by kernel_rfl, ?_⟩) (by assumption) ?_
  case refine_2 => (intro w hSw; go_simp; try (with_reducible rfl))
  try simp only [Act.put, List.setIfInBounds_toArray, List.set_cons_zero, List.set_cons_succ]
  refine wpAnyH_take (i := 9) (oi := ⟨some 5, _, _, _, _, _⟩) (v := ?_) rfl (by kernel_rfl) (by kernel_rfl) (by kernel_rfl) (fun _ _ _ h => h) (Or.inl ⟨by kernel_rfl, ?_⟩) (by assumption) ?_
  case refine_2 => (intro w hSw; go_simp; try (with_reducible rfl))
  try simp only [Act.put, List.setIfInBounds_toArray, List.set_cons_zero, List.set_cons_succ]
  refine wpAnyH_done (by kernel_rfl) ?_ _
  clear hHeld
  have HB := Lib.hid hA.bel
  clear hA
  go_wp2
  go_ret2
  exact ⟨rfl, HB.out⟩
theorem get_ok (i : Nat) (h : VI w F E ss) (hi : i < ss.length) : Calls Tryz.prog 13 #[.agg #[.int .i64 (F.N : Int), .int .i64 F.Z, .slice F.wa F.wW F.wc, .int .i64 (F.R.n : Int), .slice F.R.a F.R.m F.R.c, .int .i64 (F.R.cn : Int), .int .i64 (F.R.cW : Int), .int .i64 (F.R.cL : Int), .slice F.R.a2 F.R.m2 F.R.c2, .int .i64 (F.S.n : Int), .int .i64 (F.S.W : Int), .int .i64 (F.S.L : Int), .slice F.S.a F.S.m F.S.c, .int .i64 (F.P.n : Int), .int .i64 (F.P.W : Int), .int .i64 (F.P.L : Int), .slice F.P.a F.P.m F.P.c, .slice E ss.length c], .int .i64 (i : Int)] w fun e u' => e = .returned (.tuple #[.string (tV ss i), .int .i64 0]) ∧ Below w.heap.size w u' :=
  get_any (i : Int) (tV ss i) 0 h (fun _ hu => by have := hu.part i 0 (bg ss ss.length : Nat) hi; rwa [prV_all ss hi] at this)
theorem get_no (i : Int) (h : VI w F E ss) (hi : i < 0 ∨ (ss.length : Int) ≤ i) : Calls Tryz.prog 13 #[.agg #[.int .i64 (F.N : Int), .int .i64 F.Z, .slice F.wa F.wW F.wc, .int .i64 (F.R.n : Int), .slice F.R.a F.R.m F.R.c, .int .i64 (F.R.cn : Int), .int .i64 (F.R.cW : Int), .int .i64 (F.R.cL : Int), .slice F.R.a2 F.R.m2 F.R.c2, .int .i64 (F.S.n : Int), .int .i64 (F.S.W : Int), .int .i64 (F.S.L : Int), .slice F.S.a F.S.m F.S.c, .int .i64 (F.P.n : Int), .int .i64 (F.P.W : Int), .int .i64 (F.P.L : Int), .slice F.P.a F.P.m F.P.c, .slice E ss.length c], .int .i64 i] w fun e u' => e = .returned (.tuple #[.string ⟨#[]⟩, .int .i64 13]) ∧ Below w.heap.size w u' :=
  get_any i ⟨#[]⟩ 13 h (fun _ hu => hu.partNo i 0 (bg ss ss.length : Nat) hi)

end Go.Proofs.YtpnjccomngdblaaGreat
end

section
/- The contracts of At, Bytes, FM, symbols, Count. -/
set_option maxRecDepth 100000
namespace Go.Proofs.YtpnjccomngdblaaGreat
open Go.RowKit
open M
attribute [local go_sem ↓] Go.wp_at_zero Go.wp_at_succ

variable {w u w' : World} {b c : Nat} {F : FQ} {E : Option Addr} {ss : List ByteArray}
theorem VX.text (h : VX w b F E c ss u) (q : Nat) (hq : q < bg ss ss.length) : Calls Tryz.prog 39 #[.agg #[.int .i64 (F.N : Int), .int .i64 F.Z, .slice F.wa F.wW F.wc, .int .i64 (F.R.n : Int), .slice F.R.a F.R.m F.R.c, .int .i64 (F.R.cn : Int), .int .i64 (F.R.cW : Int), .int .i64 (F.R.cL : Int), .slice F.R.a2 F.R.m2 F.R.c2, .int .i64 (F.S.n : Int), .int .i64 (F.S.W : Int), .int .i64 (F.S.L : Int), .slice F.S.a F.S.m F.S.c, .int .i64 (F.P.n : Int), .int .i64 (F.P.W : Int), .int .i64 (F.P.L : Int), .slice F.P.a F.P.m F.P.c, .slice E ss.length c], .int .i64 (q : Int)] u fun e u' => e = .returned (.int .i64 (tx ss q : Nat)) ∧ Below u.heap.size u u' ∧ VX w b F E c ss u' :=
  (text_v q h.vi hq).mono fun _ _ hh => ⟨hh.1, hh.2, h.kept hh.2⟩
theorem at_low (q : Int) (E : Option Addr) (l c : Nat) (F : FQ) (h : q < 0) : Calls Tryz.prog 16 #[.agg #[.int .i64 (F.N : Int), .int .i64 F.Z, .slice F.wa F.wW F.wc, .int .i64 (F.R.n : Int), .slice F.R.a F.R.m F.R.c, .int .i64 (F.R.cn : Int), .int .i64 (F.R.cW : Int), .int .i64 (F.R.cL : Int), .slice F.R.a2 F.R.m2 F.R.c2, .int .i64 (F.S.n : Int), .int .i64 (F.S.W : Int), .int .i64 (F.S.L : Int), .slice F.S.a F.S.m F.S.c, .int .i64 (F.P.n : Int), .int .i64 (F.P.W : Int), .int .i64 (F.P.L : Int), .slice F.P.a F.P.m F.P.c, .slice E l c], .int .i64 q] w fun e u' => e = .returned (.tuple #[.int .i64 (-1), .int .i64 (-1)]) ∧ Below w.heap.size w u' := by
  have hb := al w (.cells #[.int .i64 (F.N : Int), .int .i64 F.Z, .slice F.wa F.wW F.wc, .int .i64 (F.R.n : Int), .slice F.R.a F.R.m F.R.c, .int .i64 (F.R.cn : Int), .int .i64 (F.R.cW : Int), .int .i64 (F.R.cL : Int), .slice F.R.a2 F.R.m2 F.R.c2, .int .i64 (F.S.n : Int), .int .i64 (F.S.W : Int), .int .i64 (F.S.L : Int), .slice F.S.a F.S.m F.S.c, .int .i64 (F.P.n : Int), .int .i64 (F.P.W : Int), .int .i64 (F.P.L : Int), .slice F.P.a F.P.m F.P.c, .slice E l c] 40)
  have HB := Lib.hid hb
  clear hb
  go_enter Tryz.func16, Tryz.ntmps16
  go_wp2
  go_ret2
  exact ⟨rfl, HB.out⟩
theorem at_high (q : Int) (h : VI w F E ss) (hq : (bg ss ss.length : Int) ≤ q) : Calls Tryz.prog 16 #[.agg #[.int .i64 (F.N : Int), .int .i64 F.Z, .slice F.wa F.wW F.wc, .int .i64 (F.R.n : Int), .slice F.R.a F.R.m F.R.c, .int .i64 (F.R.cn : Int), .int .i64 (F.R.cW : Int), .int .i64 (F.R.cL : Int), .slice F.R.a2 F.R.m2 F.R.c2, .int .i64 (F.S.n : Int), .int .i64 (F.S.W : Int), .int .i64 (F.S.L : Int), .slice F.S.a F.S.m F.S.c, .int .i64 (F.P.n : Int), .int .i64 (F.P.W : Int), .int .i64 (F.P.L : Int), .slice F.P.a F.P.m F.P.c, .slice E ss.length c], .int .i64 q] w fun e u' => e = .returned (.tuple #[.int .i64 (-1), .int .i64 (-1)]) ∧ Below w.heap.size w u' := by
  have hA : VX w w.heap.size F E c ss _ := VX.new h
  have hfl := hA.flen
  obtain ⟨n, hn⟩ : ∃ n, bg ss ss.length = n := ⟨_, rfl⟩
  rw [hn] at hfl hq
  have HA := Lib.hid (And.intro hA hfl)
  have q0 : ¬ q < 0 := by omega
  clear hA hfl hn h
  go_enter Tryz.func16, Tryz.ntmps16
  go_upto_region 1 with fail
  go_wp2_with (first | (refine load36 HA.out.1.box _ (by with_reducible rfl) rfl rfl ?_) | (go_at_call 36; (with_reducible refine HA.out.2.mono ?_); rintro e u1 ⟨rfl, hA1⟩; have H1 := Lib.hid hA1.bel; clear hA1))
  go_ret2
  exact ⟨rfl, H1.out⟩
theorem at_in (q : Nat) (h : VI w F E ss) (hq : q < bg ss ss.length) : Calls Tryz.prog 16 #[.agg #[.int .i64 (F.N : Int), .int .i64 F.Z, .slice F.wa F.wW F.wc, .int .i64 (F.R.n : Int), .slice F.R.a F.R.m F.R.c, .int .i64 (F.R.cn : Int), .int .i64 (F.R.cW : Int), .int .i64 (F.R.cL : Int), .slice F.R.a2 F.R.m2 F.R.c2, .int .i64 (F.S.n : Int), .int .i64 (F.S.W : Int), .int .i64 (F.S.L : Int), .slice F.S.a F.S.m F.S.c, .int .i64 (F.P.n : Int), .int .i64 (F.P.W : Int), .int .i64 (F.P.L : Int), .slice F.P.a F.P.m F.P.c, .slice E ss.length c], .int .i64 (q : Int)] w fun e u' => e = .returned (.tuple #[.int .i64 (tx ss q : Nat), .int .i64 ((q - bg ss (tx ss q) : Nat) : Int)]) ∧ Below w.heap.size w u' := by
  have hA : VX w w.heap.size F E c ss _ := VX.new h
  obtain ⟨h1, h2, h3⟩ := tx_ok (ss := ss) (q := q) (by rw [row_len]; exact hq)
  have hfew := h.few
  have hfl := fun (u : World) (hu : VX w w.heap.size F E c ss u) => hu.flen
  have htx := fun (u : World) (hu : VX w w.heap.size F E c ss u) => hu.text q hq
  have hbg := fun (u : World) (hu : VX w w.heap.size F E c ss u) => hu.hid_begin (tx ss q) h1
  obtain ⟨t, ht⟩ : ∃ t, tx ss q = t := ⟨_, rfl⟩
  rw [ht] at h2 htx hbg ⊢
  obtain ⟨a, ha⟩ : ∃ a, bg ss t = a := ⟨_, rfl⟩
  rw [ha] at h2 hbg ⊢
  obtain ⟨n, hn⟩ : ∃ n, bg ss ss.length = n := ⟨_, rfl⟩
  rw [hn] at hfl hq hfew
  have HC := Lib.hid (And.intro hfl (And.intro htx hbg))
  have HA := Lib.hid hA
  have q0 : ¬ (q : Int) < 0 := by omega
  have q1 : ¬ (n : Int) ≤ (q : Int) := by omega
  have q2 : IntKind.i64.wrap ((q : Int) - (a : Int)) = ((q - a : Nat) : Int) := by rw [show (q : Int) - (a : Int) = ((q - a : Nat) : Int) by omega]; exact IntWalk.i64_in _ (by omega)
  clear hA hfl htx hbg h1 h2 h3 ht ha hn h hq hfew
  go_enter Tryz.func16, Tryz.ntmps16
  go_upto_region 1 with fail
  obtain ⟨w1, hw1⟩ : ∃ w1, w.alloc (.cells #[.int .i64 (F.N : Int), .int .i64 F.Z, .slice F.wa F.wW F.wc, .int .i64 (F.R.n : Int), .slice F.R.a F.R.m F.R.c, .int .i64 (F.R.cn : Int), .int .i64 (F.R.cW : Int), .int .i64 (F.R.cL : Int), .slice F.R.a2 F.R.m2 F.R.c2, .int .i64 (F.S.n : Int), .int .i64 (F.S.W : Int), .int .i64 (F.S.L : Int), .slice F.S.a F.S.m F.S.c, .int .i64 (F.P.n : Int), .int .i64 (F.P.W : Int), .int .i64 (F.P.L : Int), .slice F.P.a F.P.m F.P.c, .slice E ss.length c] 40) = w1 := ⟨_, rfl⟩
  obtain ⟨bx, hbx⟩ : ∃ bx, w.heap.size = bx := ⟨_, rfl⟩
  rw [hw1, hbx] at HA
  rw [hbx] at HC
  simp only [hw1, hbx]
  clear hw1
  go_wp2_with (first | (refine load36 HA.out.box _ (by with_reducible rfl) rfl rfl ?_) | (go_at_call 36; (with_reducible refine (HC.out.1 _ HA.out).mono ?_); rintro e u1 ⟨rfl, hA1⟩; have H1 := Lib.hid hA1; clear hA1) | (refine load40 H1.out _ (by with_reducible rfl) rfl rfl ?_) | (go_at_call 39; (with_reducible refine (HC.out.2.1 _ H1.out).mono ?_); rintro e u2 ⟨rfl, -, hA2⟩; have H2 := Lib.hid hA2; clear hA2 H1) | (refine load40 H2.out _ (by with_reducible rfl) rfl rfl ?_) | (go_at_call 37; (with_reducible refine (HC.out.2.2 _ H2.out).mono ?_); rintro e u3 ⟨rfl, hA3⟩; have H3 := Lib.hid hA3.bel; clear hA3 H2))
  go_ret2
  exact ⟨rfl, H3.out⟩

set_option maxHeartbeats 4000000 in
theorem bytes_v (h : VI w F E ss) : Calls Tryz.prog 23 #[.agg #[.int .i64 (F.N : Int), .int .i64 F.Z, .slice F.wa F.wW F.wc, .int .i64 (F.R.n : Int), .slice F.R.a F.R.m F.R.c, .int .i64 (F.R.cn : Int), .int .i64 (F.R.cW : Int), .int .i64 (F.R.cL : Int), .slice F.R.a2 F.R.m2 F.R.c2, .int .i64 (F.S.n : Int), .int .i64 (F.S.W : Int), .int .i64 (F.S.L : Int), .slice F.S.a F.S.m F.S.c, .int .i64 (F.P.n : Int), .int .i64 (F.P.W : Int), .int .i64 (F.P.L : Int), .slice F.P.a F.P.m F.P.c, .slice E ss.length c]] w fun e u' => e = .returned (.int .i64 ((bg ss ss.length - ss.length : Nat) : Int)) ∧ Below w.heap.size w u' := by
  have hA : VX w w.heap.size F E c ss _ := VX.new h
  have hfew := h.few
  have hlb := len_bg ss ss.length
  have hfl := fun (u : World) (hu : VX w w.heap.size F E c ss u) => hu.flen
  obtain ⟨n, hn⟩ : ∃ n, bg ss ss.length = n := ⟨_, rfl⟩
  rw [hn] at hfl hfew hlb ⊢
  have HC := Lib.hid hfl
  have q2 : IntKind.i64.wrap ((n : Int) - (ss.length : Int)) = ((n - ss.length : Nat) : Int) := by rw [show (n : Int) - (ss.length : Int) = ((n - ss.length : Nat) : Int) by omega]; exact IntWalk.i64_in _ (by omega)
  clear hfl hn hfew hlb h
  go_enter Tryz.func23, Tryz.ntmps23
  go_upto_region 1 with fail
  obtain ⟨w1, hw1⟩ : ∃ w1, w.alloc (.cells #[.int .i64 (F.N : Int), .int .i64 F.Z, .slice F.wa F.wW F.wc, .int .i64 (F.R.n : Int), .slice F.R.a F.R.m F.R.c, .int .i64 (F.R.cn : Int), .int .i64 (F.R.cW : Int), .int .i64 (F.R.cL : Int), .slice F.R.a2 F.R.m2 F.R.c2, .int .i64 (F.S.n : Int), .int .i64 (F.S.W : Int), .int .i64 (F.S.L : Int), .slice F.S.a F.S.m F.S.c, .int .i64 (F.P.n : Int), .int .i64 (F.P.W : Int), .int .i64 (F.P.L : Int), .slice F.P.a F.P.m F.P.c, .slice E ss.length c] 40) = w1 := ⟨_, rfl⟩
  obtain ⟨bx, hbx⟩ : ∃ bx, w.heap.size = bx := ⟨_, rfl⟩
  rw [hw1, hbx] at hA
  rw [hbx] at HC
  simp only [hw1, hbx]
  clear hw1
  try simp only [List.append_eq, List.cons_append, List.nil_append]
  refine wp_region_held_drew (S := fun w' => VX w bx F E c ss w') (by kernel_rfl) (hA.drew) (fun hHeld => ?_)
  replace hA := hA.drew
  refine wpAnyH_take (i := 0) (oi := ⟨some 3, _, _, _, _, _⟩) (v := ?_) rfl (by kernel_rfl) (by kernel_rfl) (by kernel_rfl) (fun _ _ _ h => h) (Or.inl ⟨by kernel_rfl, ?_⟩) (by assumption) ?_
  case refine_2 => (intro w hSw; go_simp; try (with_reducible rfl))
  try simp only [Act.put, List.setIfInBounds_toArray, List.set_cons_zero, List.set_cons_succ]
  refine wpAnyH_take (i := 1) (oi := ⟨some 4, _, _, _, _, _⟩) rfl (by kernel_rfl) (by kernel_rfl) (by kernel_rfl) (fun _ _ _ h => h) (yieldsIf_load_mid (by kernel_rfl) 37 _ rfl _ 0 rfl _ _ (fun w hw => MBx.range (VX.box hw)) Tryz.underlying37 rfl (by kernel_rfl)) (by assumption) ?_
  try simp only [Act.put, List.setIfInBounds_toArray, List.set_cons_zero, List.set_cons_succ]
  refine wpAnyH_take (i := 3) (oi := ⟨some 6, _, _, _, _, _⟩) (v := ?_) rfl (by kernel_rfl) (by kernel_rfl) (by kernel_rfl) (fun _ _ _ h => h) (Or.inl ⟨by kernel_rfl, ?_⟩) (by assumption) ?_
  case refine_2 => (intro w hSw; go_simp; try (with_reducible rfl))
  try simp only [Act.put, List.setIfInBounds_toArray, List.set_cons_zero, List.set_cons_succ]
  refine wpAnyH_take (i := 4) (oi := ⟨some 7, _, _, _, _, _⟩) (v := ?_) rfl (by kernel_rfl) (by kernel_rfl) (by kernel_rfl) (fun _ _ _ h => h) (Or.inl ⟨by kernel_rfl, ?_⟩) (by assumption) ?_
  case refine_2 => (intro w hSw; have x17 := VX.c17 hSw; go_simp; try (with_reducible rfl))
  try simp only [Act.put, List.setIfInBounds_toArray, List.set_cons_zero, List.set_cons_succ]
  refine wpAnyH_take (i := 5) (oi := ⟨some 8, _, _, _, _, _⟩) (v := ?_) rfl (by kernel_rfl) (by kernel_rfl) (by kernel_rfl) (fun _ _ _ h => h) (Or.inl ⟨by kernel_rfl, ?_⟩) (by assumption) ?_
  case refine_2 => (intro w hSw; go_simp; try (with_reducible rfl))
  try simp only [Act.put, List.setIfInBounds_toArray, List.set_cons_zero, List.set_cons_succ]
  refine wpAnyH_ready (rs := [2]) (by kernel_rfl) (by simp) ?_
  refine AllReadyH.cons rfl (fun K hK => ?_) AllReadyH.nil
  go_simp
  (with_reducible refine (HC.out _ hA).mono ?_)
  rintro e u ⟨rfl, hA'⟩
  replace hA := hA'
  clear hA'
  clear hHeld
  refine hK.out _ _ (hA) (fun hHeld => ?_)
  clear hK K
  try simp only [Act.put, List.setIfInBounds_toArray, List.set_cons_zero, List.set_cons_succ]
  refine wpAnyH_take (i := 6) (oi := ⟨some 9, _, _, _, _, _⟩) (v := ?_) rfl (by kernel_rfl) (by kernel_rfl) (by kernel_rfl) (fun _ _ _ h => h) (Or.inl ⟨by kernel_rfl, ?_⟩) (by assumption) ?_
  case refine_2 => (intro w hSw; go_simp; try (with_reducible rfl))
  try simp only [Act.put, List.setIfInBounds_toArray, List.set_cons_zero, List.set_cons_succ]
  refine wpAnyH_take (i := 7) (oi := ⟨some 2, _, _, _, _, _⟩) (v := ?_) rfl (by kernel_rfl) (by kernel_rfl) (by kernel_rfl) (fun _ _ _ h => h) (Or.inl ⟨by kernel_rfl, ?_⟩) (by assumption) ?_
  case refine_2 => (intro w hSw; go_simp; try (with_reducible rfl))
  try simp only [Act.put, List.setIfInBounds_toArray, List.set_cons_zero, List.set_cons_succ]
  refine wpAnyH_done (by kernel_rfl) ?_ _
  clear hHeld
  have HB := Lib.hid hA.bel
  clear hA
  go_wp2
  go_ret
  exact ⟨rfl, HB.out⟩

/-! ## FM -/
set_option maxHeartbeats 4000000 in
theorem vfm_any (h : VI w F E ss) : Calls Tryz.prog 19 #[.agg #[.int .i64 (F.N : Int), .int .i64 F.Z, .slice F.wa F.wW F.wc, .int .i64 (F.R.n : Int), .slice F.R.a F.R.m F.R.c, .int .i64 (F.R.cn : Int), .int .i64 (F.R.cW : Int), .int .i64 (F.R.cL : Int), .slice F.R.a2 F.R.m2 F.R.c2, .int .i64 (F.S.n : Int), .int .i64 (F.S.W : Int), .int .i64 (F.S.L : Int), .slice F.S.a F.S.m F.S.c, .int .i64 (F.P.n : Int), .int .i64 (F.P.W : Int), .int .i64 (F.P.L : Int), .slice F.P.a F.P.m F.P.c, .slice E ss.length c]] w fun e u' => e = .returned (.agg #[.int .i64 (F.N : Int), .int .i64 F.Z, .slice F.wa F.wW F.wc, .int .i64 (F.R.n : Int), .slice F.R.a F.R.m F.R.c, .int .i64 (F.R.cn : Int), .int .i64 (F.R.cW : Int), .int .i64 (F.R.cL : Int), .slice F.R.a2 F.R.m2 F.R.c2, .int .i64 (F.S.n : Int), .int .i64 (F.S.W : Int), .int .i64 (F.S.L : Int), .slice F.S.a F.S.m F.S.c, .int .i64 (F.P.n : Int), .int .i64 (F.P.W : Int), .int .i64 (F.P.L : Int), .slice F.P.a F.P.m F.P.c]) ∧ FMI u' F (rowV ss) 257 ∧ Below w.heap.size w u' := by
  have hA : VX w w.heap.size F E c ss _ := VX.new h
  obtain ⟨w1, hw1⟩ : ∃ w1, w1 = w.alloc (.cells #[.int .i64 (F.N : Int), .int .i64 F.Z, .slice F.wa F.wW F.wc, .int .i64 (F.R.n : Int), .slice F.R.a F.R.m F.R.c, .int .i64 (F.R.cn : Int), .int .i64 (F.R.cW : Int), .int .i64 (F.R.cL : Int), .slice F.R.a2 F.R.m2 F.R.c2, .int .i64 (F.S.n : Int), .int .i64 (F.S.W : Int), .int .i64 (F.S.L : Int), .slice F.S.a F.S.m F.S.c, .int .i64 (F.P.n : Int), .int .i64 (F.P.W : Int), .int .i64 (F.P.L : Int), .slice F.P.a F.P.m F.P.c, .slice E ss.length c] 40) := ⟨_, rfl⟩
  obtain ⟨w2, hw2⟩ : ∃ w2, w2 = w1.alloc (.cells #[.int .i64 0, .int .i64 0, .slice none 0 0, .int .i64 0, .slice none 0 0, .int .i64 0, .int .i64 0, .int .i64 0, .slice none 0 0, .int .i64 0, .int .i64 0, .int .i64 0, .slice none 0 0, .int .i64 0, .int .i64 0, .int .i64 0, .slice none 0 0] 37) := ⟨_, rfl⟩
  have hs1 : w1.heap.size = w.heap.size + 1 := by rw [hw1]; simp
  rw [← hw1] at hA
  have hb2 : Below w1.heap.size w1 w2 := by rw [hw2]; exact al w1 _
  have hA2 := hA.kept hb2
  have th : w2.there w1.heap.size 0 17 := by rw [hw2]; exact there_new w1
  have ty : Typ w2 w1.heap.size 37 := by rw [hw2]; exact ⟨_, _, heap_alloc_new w1 _⟩
  have hold : 0 < F.wW → ∀ p, F.wa = some p → p.block < w.heap.size := h.fm.wx.old
  rw [hs1] at th ty
  have H2 := Lib.hid (And.intro hA2 (And.intro th (And.intro ty hold)))
  clear hA hA2 th ty hold hs1 hb2 h
  go_enter Tryz.func19, Tryz.ntmps19
  go_upto_region 1 with fail
  rw [← hw1, ← hw2]
  obtain ⟨r, hr⟩ : ∃ r, w.heap.size = r := ⟨_, rfl⟩
  clear hw2
  clear hw1
  simp only [hr] at H2 ⊢
  go_wp2_with (refine load36 H2.out.1.box _ (by with_reducible rfl) rfl rfl ?_)
  (with_reducible refine (fsize_any H2.out.1.vi.fm).mono ?_)
  rintro e u3 ⟨rfl, hb⟩
  have hth := there_kp H2.out.2.1 H2.out.2.2.1.lt (Below.kp hb) (fun h => h)
  have H3 := Lib.hid (And.intro (H2.out.1.kept hb) (And.intro hth (And.intro (H2.out.2.2.1.kept hb) H2.out.2.2.2)))
  clear hb hth H2
  go_wp2_with (first | (refine load36 H3.out.1.box _ (by with_reducible rfl) rfl rfl ?_) | (refine store36 F (r + 1) _ _ (by with_reducible rfl) rfl rfl rfl H3.out.2.1 ?_))
  obtain ⟨hA, hth, hty, hold⟩ := H3.out
  have hst := MBx.stored F hth
  have hk := setCells_kp (r + 1) [.int .i64 (F.N : Int), .int .i64 F.Z, .slice F.wa F.wW F.wc, .int .i64 (F.R.n : Int), .slice F.R.a F.R.m F.R.c, .int .i64 (F.R.cn : Int), .int .i64 (F.R.cW : Int), .int .i64 (F.R.cL : Int), .slice F.R.a2 F.R.m2 F.R.c2, .int .i64 (F.S.n : Int), .int .i64 (F.S.W : Int), .int .i64 (F.S.L : Int), .slice F.S.a F.S.m F.S.c, .int .i64 (F.P.n : Int), .int .i64 (F.P.W : Int), .int .i64 (F.P.L : Int), .slice F.P.a F.P.m F.P.c] 0 u3
  have hF7 := hA.vi.fm.typs hk (fun b e => ⟨37, by decide, by rw [e]; exact hty⟩) (fun h p e ek => by have := hold h p e; omega)
  have hb8 : Below w.heap.size w (u3.setCells (r + 1) 0 [.int .i64 (F.N : Int), .int .i64 F.Z, .slice F.wa F.wW F.wc, .int .i64 (F.R.n : Int), .slice F.R.a F.R.m F.R.c, .int .i64 (F.R.cn : Int), .int .i64 (F.R.cW : Int), .int .i64 (F.R.cL : Int), .slice F.R.a2 F.R.m2 F.R.c2, .int .i64 (F.S.n : Int), .int .i64 (F.S.W : Int), .int .i64 (F.S.L : Int), .slice F.S.a F.S.m F.S.c, .int .i64 (F.P.n : Int), .int .i64 (F.P.W : Int), .int .i64 (F.P.L : Int), .slice F.P.a F.P.m F.P.c]) := Below.setCells' (by omega) _ 0 hA.bel
  generalize u3.setCells (r + 1) 0 [.int .i64 (F.N : Int), .int .i64 F.Z, .slice F.wa F.wW F.wc, .int .i64 (F.R.n : Int), .slice F.R.a F.R.m F.R.c, .int .i64 (F.R.cn : Int), .int .i64 (F.R.cW : Int), .int .i64 (F.R.cL : Int), .slice F.R.a2 F.R.m2 F.R.c2, .int .i64 (F.S.n : Int), .int .i64 (F.S.W : Int), .int .i64 (F.S.L : Int), .slice F.S.a F.S.m F.S.c, .int .i64 (F.P.n : Int), .int .i64 (F.P.W : Int), .int .i64 (F.P.L : Int), .slice F.P.a F.P.m F.P.c] = u8 at *
  refine bodyPost_ret (v := .agg #[.int .i64 (F.N : Int), .int .i64 F.Z, .slice F.wa F.wW F.wc, .int .i64 (F.R.n : Int), .slice F.R.a F.R.m F.R.c, .int .i64 (F.R.cn : Int), .int .i64 (F.R.cW : Int), .int .i64 (F.R.cL : Int), .slice F.R.a2 F.R.m2 F.R.c2, .int .i64 (F.S.n : Int), .int .i64 (F.S.W : Int), .int .i64 (F.S.L : Int), .slice F.S.a F.S.m F.S.c, .int .i64 (F.P.n : Int), .int .i64 (F.P.W : Int), .int .i64 (F.P.L : Int), .slice F.P.a F.P.m F.P.c]) (results_fm (b := r + 1) (F := F) Tryz.results19 _ ?hp hst) ?hd ?_
  case hp => rfl
  case hd => rfl
  exact ⟨rfl, hF7, hb8⟩

end Go.Proofs.YtpnjccomngdblaaGreat
end

section
/- The contracts of symbols, Count, isFirst. -/
set_option maxRecDepth 100000
namespace Go.Proofs.YtpnjccomngdblaaGreat
open Go.RowKit
open M
attribute [local go_sem ↓] Go.wp_at_zero Go.wp_at_succ

variable {w u w' : World} {b c : Nat} {F : FQ} {E : Option Addr} {ss : List ByteArray}
theorem GW.owni {w u : World} {v v' : Value} {l' : List Int} (h : GW w v w.heap.size v' l' u) (hv : ∀ k, v.ownBlock = some k → w.heap.size ≤ k) : OwnI w v' l' u :=
  ⟨h.own, h.kp.toBelow (Nat.le_refl _) (fun k hk e => by have := hv k e; omega)⟩
theorem OwnI.ofv {w w1 u : World} {v : Value} {l : List Int} (h : OwnI w1 v l u) (hb : Below w.heap.size w w1) : OwnI w v l u := ⟨own_mono h.1 hb.size, hb.trans (h.2.mono hb.size)⟩
theorem VX.bytes (h : VX w b F E c ss u) : Calls Tryz.prog 23 #[.agg #[.int .i64 (F.N : Int), .int .i64 F.Z, .slice F.wa F.wW F.wc, .int .i64 (F.R.n : Int), .slice F.R.a F.R.m F.R.c, .int .i64 (F.R.cn : Int), .int .i64 (F.R.cW : Int), .int .i64 (F.R.cL : Int), .slice F.R.a2 F.R.m2 F.R.c2, .int .i64 (F.S.n : Int), .int .i64 (F.S.W : Int), .int .i64 (F.S.L : Int), .slice F.S.a F.S.m F.S.c, .int .i64 (F.P.n : Int), .int .i64 (F.P.W : Int), .int .i64 (F.P.L : Int), .slice F.P.a F.P.m F.P.c, .slice E ss.length c]] u fun e u' => e = .returned (.int .i64 ((bg ss ss.length - ss.length : Nat) : Int)) ∧ VX w b F E c ss u' :=
  (bytes_v h.vi).mono fun _ _ hh => ⟨hh.1, h.kept hh.2⟩
theorem with_nil (s : ByteArray) (w : World) (hs : s.size ≤ 1000000) : Calls Tryz.prog 35 #[.slice none 0 0, .string s] w fun e u => ∃ v', e = .returned v' ∧ OwnI w v' (sy s) u :=
  (with_any (.slice none 0 0) [] s w.heap.size w (World.ownsRow_nil _ _ _ _) (Nat.le_refl _) (by simp) hs).mono fun e u ⟨v', h1, h2⟩ => ⟨v', h1, h2.owni (fun k hk => by simp [Value.ownBlock] at hk)⟩
set_option maxHeartbeats 4000000 in
theorem symbols_v (p : ByteArray) (h : VI w F E ss) (hp : p.size ≤ 1000000) : Calls Tryz.prog 47 #[.agg #[.int .i64 (F.N : Int), .int .i64 F.Z, .slice F.wa F.wW F.wc, .int .i64 (F.R.n : Int), .slice F.R.a F.R.m F.R.c, .int .i64 (F.R.cn : Int), .int .i64 (F.R.cW : Int), .int .i64 (F.R.cL : Int), .slice F.R.a2 F.R.m2 F.R.c2, .int .i64 (F.S.n : Int), .int .i64 (F.S.W : Int), .int .i64 (F.S.L : Int), .slice F.S.a F.S.m F.S.c, .int .i64 (F.P.n : Int), .int .i64 (F.P.W : Int), .int .i64 (F.P.L : Int), .slice F.P.a F.P.m F.P.c, .slice E ss.length c], .string p] w fun e u' => ∃ v', e = .returned v' ∧ OwnI w v' (sy (cutV ss p)) u' := by
  have hA : VX w w.heap.size F E c ss _ := VX.new h
  have hfew := h.few
  have hby := fun (u : World) (hu : VX w w.heap.size F E c ss u) => hu.bytes
  obtain ⟨B, hB⟩ : ∃ B, bg ss ss.length - ss.length = B := ⟨_, rfl⟩
  rw [hB] at hby
  have hcv : cutV ss p = p.extract 0 (min (p.size : Int) ((B : Int) + 1)).toNat := by
    unfold cutV
    rw [hB]
    congr 1
    omega
  have hwn := fun (u : World) => with_nil (cutV ss p) u (by rw [cut_size]; omega)
  rw [hcv] at hwn ⊢
  have HC := Lib.hid (And.intro hby hwn)
  have HA := Lib.hid hA
  have q1 : IntKind.i64.wrap ((B : Int) + 1) = (B : Int) + 1 := IntWalk.i64_in _ (by omega)
  clear hA hby hB hcv hwn h hfew
  go_enter Tryz.func47, Tryz.ntmps47
  go_upto_region 1 with fail
  obtain ⟨w1, hw1⟩ : ∃ w1, w.alloc (.cells #[.int .i64 (F.N : Int), .int .i64 F.Z, .slice F.wa F.wW F.wc, .int .i64 (F.R.n : Int), .slice F.R.a F.R.m F.R.c, .int .i64 (F.R.cn : Int), .int .i64 (F.R.cW : Int), .int .i64 (F.R.cL : Int), .slice F.R.a2 F.R.m2 F.R.c2, .int .i64 (F.S.n : Int), .int .i64 (F.S.W : Int), .int .i64 (F.S.L : Int), .slice F.S.a F.S.m F.S.c, .int .i64 (F.P.n : Int), .int .i64 (F.P.W : Int), .int .i64 (F.P.L : Int), .slice F.P.a F.P.m F.P.c, .slice E ss.length c] 40) = w1 := ⟨_, rfl⟩
  obtain ⟨bx, hbx⟩ : ∃ bx, w.heap.size = bx := ⟨_, rfl⟩
  rw [hw1, hbx] at HA
  rw [hbx] at HC
  simp only [hw1, hbx]
  clear hw1
  go_wp2_with (first | (refine load40 HA.out _ (by with_reducible rfl) rfl rfl ?_) | (go_at_call 23; (with_reducible refine (HC.out.1 _ HA.out).mono ?_); rintro e u1 ⟨rfl, hA1⟩; have H1 := Lib.hid hA1; clear hA1))
  (with_reducible refine (HC.out.2 _).mono ?_)
  rintro e u2 ⟨v', rfl, hI⟩
  have HI := Lib.hid hI
  clear hI
  go_wp2
  go_ret
  exact ⟨_, rfl, HI.out.ofv H1.out.bel⟩

theorem VX.symbols (h : VX w b F E c ss u) (p : ByteArray) (hp : p.size ≤ 1000000) : Calls Tryz.prog 47 #[.agg #[.int .i64 (F.N : Int), .int .i64 F.Z, .slice F.wa F.wW F.wc, .int .i64 (F.R.n : Int), .slice F.R.a F.R.m F.R.c, .int .i64 (F.R.cn : Int), .int .i64 (F.R.cW : Int), .int .i64 (F.R.cL : Int), .slice F.R.a2 F.R.m2 F.R.c2, .int .i64 (F.S.n : Int), .int .i64 (F.S.W : Int), .int .i64 (F.S.L : Int), .slice F.S.a F.S.m F.S.c, .int .i64 (F.P.n : Int), .int .i64 (F.P.W : Int), .int .i64 (F.P.L : Int), .slice F.P.a F.P.m F.P.c, .slice E ss.length c], .string p] u fun e u' => ∃ A ac, e = .returned (.slice A (sy (cutV ss p)).length ac) ∧ NumsAt .i64 u' A (sy (cutV ss p)) ∧ (A = none → (sy (cutV ss p)).length = 0 ∧ ac = 0) ∧ Below u.heap.size u u' ∧ VX w b F E c ss u' := by
  refine (symbols_v p h.vi hp).mono ?_
  rintro e u' ⟨v', rfl, hI⟩
  obtain ⟨A, ac, rfl, hN, -, hle, -, hno⟩ := nums_of_own hI.1
  exact ⟨A, ac, rfl, hN, fun e => by have := hno e; omega, hI.2, h.kept hI.2⟩
theorem cut_none {p : ByteArray} (hp : 0 < p.size) : 0 < (cutV ss p).size := by rw [cut_size]; omega
set_option maxHeartbeats 4000000 in
theorem count_v (p : ByteArray) (h : VI w F E ss) (hp : p.size ≤ 1000000) : Calls Tryz.prog 30 #[.agg #[.int .i64 (F.N : Int), .int .i64 F.Z, .slice F.wa F.wW F.wc, .int .i64 (F.R.n : Int), .slice F.R.a F.R.m F.R.c, .int .i64 (F.R.cn : Int), .int .i64 (F.R.cW : Int), .int .i64 (F.R.cL : Int), .slice F.R.a2 F.R.m2 F.R.c2, .int .i64 (F.S.n : Int), .int .i64 (F.S.W : Int), .int .i64 (F.S.L : Int), .slice F.S.a F.S.m F.S.c, .int .i64 (F.P.n : Int), .int .i64 (F.P.W : Int), .int .i64 (F.P.L : Int), .slice F.P.a F.P.m F.P.c, .slice E ss.length c], .string p] w fun e u' => e = .returned (.int .i64 (cnV ss p ss.length : Nat)) ∧ Below w.heap.size w u' := by
  have hA : VX w w.heap.size F E c ss _ := VX.new h
  by_cases h0 : p.size = 0
  · have hfl := hA.flen
    rw [← cn_nil ss p h0] at hfl
    have HA := Lib.hid (And.intro hA hfl)
    obtain rfl : p = ⟨#[]⟩ := ba_ext (by rw [h0]; rfl) fun j hj => by simp [ByteArray.size] at hj
    clear hA hfl h h0
    go_enter Tryz.func30, Tryz.ntmps30
    go_wp2_with (first | (refine load36 HA.out.1.box _ (by with_reducible rfl) rfl rfl ?_) | (go_at_call 36; (with_reducible refine HA.out.2.mono ?_); rintro e u1 ⟨rfl, hA1⟩; have H1 := Lib.hid hA1.bel; clear hA1))
    go_ret
    exact ⟨rfl, H1.out⟩
  · have hpe : p.toList.isEmpty = false := by
      rw [ByteArray.toList_eq]
      cases e : p.data.toList with
      | nil => exact absurd (by rw [← ba_len, e]; rfl) h0
      | cons x l => rfl
    have hsy := fun (u : World) (hu : VX w w.heap.size F E c ss u) => hu.symbols p hp
    have hfn := fnd_cn ss (cutV ss p) (cut_none (by omega))
    rw [cut_cn ss p _ (Nat.le_refl _)] at hfn
    have hPl : (sy (cutV ss p)).length ≤ 1000000 := by rw [sy_len, cut_size]; omega
    obtain ⟨P, hP⟩ : ∃ P, sy (cutV ss p) = P := ⟨_, rfl⟩
    rw [hP] at hsy hfn hPl
    have hco := fun (u : World) (A : Option Addr) (ac : Nat) (hu : VX w w.heap.size F E c ss u) (hN : NumsAt .i64 u A P) => count_mx hu.mx A P.length ac P hN rfl hPl
    rw [hfn] at hco
    have HC := Lib.hid (And.intro hsy hco)
    clear hsy hco hfn hP hPl h h0
    go_enter Tryz.func30, Tryz.ntmps30
    go_upto_region 3 with fail
    obtain ⟨w1, hw1⟩ : ∃ w1, w.alloc (.cells #[.int .i64 (F.N : Int), .int .i64 F.Z, .slice F.wa F.wW F.wc, .int .i64 (F.R.n : Int), .slice F.R.a F.R.m F.R.c, .int .i64 (F.R.cn : Int), .int .i64 (F.R.cW : Int), .int .i64 (F.R.cL : Int), .slice F.R.a2 F.R.m2 F.R.c2, .int .i64 (F.S.n : Int), .int .i64 (F.S.W : Int), .int .i64 (F.S.L : Int), .slice F.S.a F.S.m F.S.c, .int .i64 (F.P.n : Int), .int .i64 (F.P.W : Int), .int .i64 (F.P.L : Int), .slice F.P.a F.P.m F.P.c, .slice E ss.length c] 40) = w1 := ⟨_, rfl⟩
    obtain ⟨bx, hbx⟩ : ∃ bx, w.heap.size = bx := ⟨_, rfl⟩
    rw [hw1, hbx] at hA
    rw [hbx] at HC
    simp only [hw1, hbx]
    clear hw1
    try simp only [List.append_eq, List.cons_append, List.nil_append]
    refine wp_region_held_drew (S := fun w' => VX w bx F E c ss w') (by kernel_rfl) (hA.drew) (fun hHeld => ?_)
    replace hA := hA.drew
    refine wpAnyH_take (i := 0) (oi := ⟨some 10, _, _, _, _, _⟩) (v := ?_) rfl (by kernel_rfl) (by kernel_rfl) (by kernel_rfl) (fun _ _ _ h => h) (Or.inl ⟨by kernel_rfl, ?_⟩) (by assumption) ?_
    case refine_2 => (intro w hSw; go_simp; try (with_reducible rfl))
    try simp only [Act.put, List.setIfInBounds_toArray, List.set_cons_zero, List.set_cons_succ]
    refine wpAnyH_take (i := 1) (oi := ⟨some 11, _, _, _, _, _⟩) rfl (by kernel_rfl) (by kernel_rfl) (by kernel_rfl) (fun _ _ _ h => h) (yieldsIf_load_mid (by kernel_rfl) 37 _ rfl _ 0 rfl _ _ (fun w hw => MBx.range (VX.box hw)) Tryz.underlying37 rfl (by kernel_rfl)) (by assumption) ?_
    try simp only [Act.put, List.setIfInBounds_toArray, List.set_cons_zero, List.set_cons_succ]
    refine wpAnyH_take (i := 2) (oi := ⟨some 12, _, _, _, _, _⟩) rfl (by kernel_rfl) (by kernel_rfl) (by kernel_rfl) (fun _ _ _ h => h) (yieldsIf_load_mid (by kernel_rfl) 40 _ rfl _ 0 rfl _ _ (fun w hw => VX.range hw) Tryz.underlying40 rfl (by kernel_rfl)) (by assumption) ?_
    try simp only [Act.put, List.setIfInBounds_toArray, List.set_cons_zero, List.set_cons_succ]
    refine wpAnyH_take (i := 3) (oi := ⟨some 13, _, _, _, _, _⟩) (v := ?_) rfl (by kernel_rfl) (by kernel_rfl) (by kernel_rfl) (fun _ _ _ h => h) (Or.inl ⟨by kernel_rfl, ?_⟩) (by assumption) ?_
    case refine_2 => (intro w hSw; go_simp; try (with_reducible rfl))
    try simp only [Act.put, List.setIfInBounds_toArray, List.set_cons_zero, List.set_cons_succ]
    refine wpAnyH_ready (rs := [4]) (by kernel_rfl) (by simp) ?_
    refine AllReadyH.cons rfl (fun K hK => ?_) AllReadyH.nil
    go_simp
    (with_reducible refine (HC.out.1 _ hA).mono ?_)
    rintro e u ⟨A, ac, rfl, hN, -, -, hA2⟩
    replace hA := hA2
    clear hA2
    clear hHeld
    refine hK.out _ _ (hA) (fun hHeld => ?_)
    clear hK K
    try simp only [Act.put, List.setIfInBounds_toArray, List.set_cons_zero, List.set_cons_succ]
    refine wpAnyH_ready (rs := [5]) (by kernel_rfl) (by simp) ?_
    refine AllReadyH.cons rfl (fun K hK => ?_) AllReadyH.nil
    go_simp
    (with_reducible refine (HC.out.2 _ _ _ hA hN).mono ?_)
    rintro e u ⟨rfl, hb, -⟩
    replace hA := hA.kept hb
    clear hb hN
    clear hHeld
    refine hK.out _ _ (hA) (fun hHeld => ?_)
    clear hK K
    try simp only [Act.put, List.setIfInBounds_toArray, List.set_cons_zero, List.set_cons_succ]
    refine wpAnyH_take (i := 6) (oi := ⟨some 4, _, _, _, _, _⟩) (v := ?_) rfl (by kernel_rfl) (by kernel_rfl) (by kernel_rfl) (fun _ _ _ h => h) (Or.inl ⟨by kernel_rfl, ?_⟩) (by assumption) ?_
    case refine_2 => (intro w hSw; go_simp; try (with_reducible rfl))
    try simp only [Act.put, List.setIfInBounds_toArray, List.set_cons_zero, List.set_cons_succ]
    refine wpAnyH_done (by kernel_rfl) ?_ _
    clear hHeld
    have HB := Lib.hid hA.bel
    clear hA
    go_wp2
    go_ret
    exact ⟨rfl, HB.out⟩

end Go.Proofs.YtpnjccomngdblaaGreat
end

section
/- The contracts of isFirst, Equal. -/
set_option maxRecDepth 100000
namespace Go.Proofs.YtpnjccomngdblaaGreat
open Go.RowKit
open M
attribute [local go_sem ↓] Go.wp_at_zero Go.wp_at_succ

variable {w u w' : World} {b c : Nat} {F : FQ} {E : Option Addr} {ss : List ByteArray}
/-- append of numbers, as one step of a region that draws. -/
theorem step_append_nums {w : World} {ops : Array Oper} {o : Oper} {a : Act} {K : Act → World → Prop} {Q : Exit → Act → World → Prop} {E : Prop} (hgd : o.guard = none) (s x : Operand)
    (ho : o.op = .call { callee := .builtin .append, args := #[s, x], argTypes := #[38, 38] }) (base : Nat) (v : Value) (n : Nat) (xs : List Value) (hs : a.eval s = v) (hown : w.ownsRow base 3 1 v n xs)
    (ad : Addr) (m c : Nat) (l : List Int) (hx : a.eval x = .slice (some ad) m c) (hl : l.length = m) (hA : NumsAt .i64 w (some ad) l) (h63 : n + m ≤ 1000000000) (hbase : base ≤ w.heap.size)
    (h : ∀ v' w', w'.ownsRow base 3 1 v' (n + m) (xs ++ l.map (Value.int .i64)) → w.grownBy w' v.ownBlock → K (a.put o.dst v') w') :
    if Region.wanted o (yielded ops a.tmps) = true then Oper.wp Tryz.prog o a w K Q else E := by
  have hw : Region.wanted o (yielded ops a.tmps) = true := by simp [Region.wanted, hgd]
  rw [if_pos hw]
  obtain ⟨i0, hi, hz0, hz1, hz2⟩ := info_parts info3
  obtain ⟨v', w', hr, h2, h3, -, -⟩ := run_append_own_at (P := Tryz.prog) w base 38 o.type 3 i0 (.int .i64 0) 1 8 Tryz.underlying38 hi hz0 hz1 hz2 rfl (by omega) v n xs hown ad m c (l.map (Value.int .i64)) (by simp [hl]) (by
    intro j u hu
    rcases hA with rfl | ⟨b, off, e, -, hc⟩
    · simp at hu
    · obtain rfl : ad = ⟨b, off, none⟩ := by simpa using e
      obtain ⟨hj, hju⟩ := List.getElem?_eq_some_iff.1 hu
      simp only [List.length_map] at hj
      have := hc j hj
      have ea : (⟨b, off, none⟩ : Addr).add j = ⟨b, off + j, none⟩ := by
        simp only [Addr.add]; split
        · rename_i h; simp_all
        · rfl
      rw [ea, this, ← hju]
      simp [List.getD_eq_getElem?_getD, hj]) (by
    intro u hu
    obtain ⟨k, -, rfl⟩ := List.mem_map.1 hu
    rfl) (by unfold maxLen; omega) (by omega) hbase
  unfold Oper.wp execOp
  simp only [ho, resolve, invoke, builtin, Sem.run_bind, Sem.run_pure, Result.andThen_ok, List.map_toArray, List.map_cons, List.map_nil, hs, hx, hr]
  exact h v' w' h2 h3


def isF (ss : List ByteArray) (p : ByteArray) : Bool := decide (0 < ss.length ∧ tV ss 0 = p)
theorem VX.told (h : VX w b F E c ss u) (t : ByteArray) (ht : tV ss 0 = t) (h0 : 0 < ss.length) : Calls Tryz.prog 38 #[.agg #[.int .i64 (F.N : Int), .int .i64 F.Z, .slice F.wa F.wW F.wc, .int .i64 (F.R.n : Int), .slice F.R.a F.R.m F.R.c, .int .i64 (F.R.cn : Int), .int .i64 (F.R.cW : Int), .int .i64 (F.R.cL : Int), .slice F.R.a2 F.R.m2 F.R.c2, .int .i64 (F.S.n : Int), .int .i64 (F.S.W : Int), .int .i64 (F.S.L : Int), .slice F.S.a F.S.m F.S.c, .int .i64 (F.P.n : Int), .int .i64 (F.P.W : Int), .int .i64 (F.P.L : Int), .slice F.P.a F.P.m F.P.c, .slice E ss.length c], .int .i64 0, .int .i64 (t.size : Int)] u fun e u' => e = .returned (.string t) ∧ VX w b F E c ss u' := by
  have hx := ex_text ss (i := 0) (f := 0) (m := t.size) h0 (by rw [ht]; omega)
  rw [ht, Nat.zero_add, ex_all] at hx
  have hs := bg_lt ss h0
  rw [ht] at hs
  have := h.vi.few
  exact (told_v (c := c) 0 t.size t h.vi rfl hx (by omega)).mono fun _ _ hh => ⟨hh.1, h.kept hh.2⟩
set_option maxHeartbeats 4000000 in
theorem isFirst_v (p : ByteArray) (h : VI w F E ss) : Calls Tryz.prog 49 #[.agg #[.int .i64 (F.N : Int), .int .i64 F.Z, .slice F.wa F.wW F.wc, .int .i64 (F.R.n : Int), .slice F.R.a F.R.m F.R.c, .int .i64 (F.R.cn : Int), .int .i64 (F.R.cW : Int), .int .i64 (F.R.cL : Int), .slice F.R.a2 F.R.m2 F.R.c2, .int .i64 (F.S.n : Int), .int .i64 (F.S.W : Int), .int .i64 (F.S.L : Int), .slice F.S.a F.S.m F.S.c, .int .i64 (F.P.n : Int), .int .i64 (F.P.W : Int), .int .i64 (F.P.L : Int), .slice F.P.a F.P.m F.P.c, .slice E ss.length c], .string p] w fun e u' => e = .returned (.bool (isF ss p)) ∧ Below w.heap.size w u' := by
  have hA : VX w w.heap.size F E c ss _ := VX.new h
  have x17 := hA.c17
  by_cases h0 : 0 < ss.length
  · obtain ⟨bb, off, hE, hc⟩ := hA.end_cell h0
    rw [show bg ss 0 = 0 from rfl, Nat.zero_add, Nat.add_zero] at hc
    obtain ⟨t, ht⟩ : ∃ t, tV ss 0 = t := ⟨_, rfl⟩
    have htd := hA.told t ht h0
    have e : isF ss p = (t.toList == p.toList) := by rw [eq_list]; unfold isF; rw [ht]; simp [h0]
    rw [ht] at hc
    have HB := Lib.hid hA.bel
    have HE := Lib.hid e
    subst hE
    have q1 : (0 : Int) < (ss.length : Int) := by omega
    by_cases hs : t.size = p.size
    · rw [hs] at htd
      have HA := Lib.hid (And.intro hA htd)
      have q2 : ((t.size : Int) == (p.size : Int)) = true := by simp [hs]
      clear hA htd ht e hs h
      go_enter Tryz.func49, Tryz.ntmps49
      go_wp2_with (first | (refine load40 HA.out.1 _ (by with_reducible rfl) rfl rfl ?_) | (go_at_call 38; (with_reducible refine HA.out.2.mono ?_); rintro e u1 ⟨rfl, hA1⟩; have H1 := Lib.hid hA1.bel; clear hA1))
      go_ret
      exact ⟨by rw [HE.out]; rfl, H1.out⟩
    · have q2 : ((t.size : Int) == (p.size : Int)) = false := by simp; omega
      have e2 : (t.toList == p.toList) = false := by rw [eq_list, decide_eq_false_iff_not]; intro hh; rw [hh] at hs; exact hs rfl
      rw [e2] at HE
      clear hA htd ht e e2 hs h
      go_enter Tryz.func49, Tryz.ntmps49
      go_wp2
      go_ret
      exact ⟨by rw [HE.out]; rfl, HB.out⟩
  · have e : isF ss p = false := by unfold isF; simp [h0]
    have HE := Lib.hid e
    have HB := Lib.hid hA.bel
    have q1 : ¬ (0 : Int) < (ss.length : Int) := by omega
    clear hA e h
    go_enter Tryz.func49, Tryz.ntmps49
    go_wp2
    go_ret
    exact ⟨by rw [HE.out]; rfl, HB.out⟩

end Go.Proofs.YtpnjccomngdblaaGreat
end

section
/- The contract of Equal. -/
set_option maxRecDepth 100000
namespace Go.Proofs.YtpnjccomngdblaaGreat
open Go.RowKit
open M
attribute [local go_sem ↓] Go.wp_at_zero Go.wp_at_succ

variable {w u w' : World} {b c : Nat} {F : FQ} {E : Option Addr} {ss : List ByteArray}
theorem VX.first (h : VX w b F E c ss u) (p : ByteArray) : Calls Tryz.prog 49 #[.agg #[.int .i64 (F.N : Int), .int .i64 F.Z, .slice F.wa F.wW F.wc, .int .i64 (F.R.n : Int), .slice F.R.a F.R.m F.R.c, .int .i64 (F.R.cn : Int), .int .i64 (F.R.cW : Int), .int .i64 (F.R.cL : Int), .slice F.R.a2 F.R.m2 F.R.c2, .int .i64 (F.S.n : Int), .int .i64 (F.S.W : Int), .int .i64 (F.S.L : Int), .slice F.S.a F.S.m F.S.c, .int .i64 (F.P.n : Int), .int .i64 (F.P.W : Int), .int .i64 (F.P.L : Int), .slice F.P.a F.P.m F.P.c, .slice E ss.length c], .string p] u fun e u' => e = .returned (.bool (isF ss p)) ∧ VX w b F E c ss u' :=
  (isFirst_v p h.vi).mono fun _ _ hh => ⟨hh.1, h.kept hh.2⟩
def fstL (g : Bool) : List Int := if g then [0] else []
/-- What was told of the first i places. -/
def eqP (ss : List ByteArray) (g : Bool) (Q : List Int) (i : Nat) : List Int := fstL g ++ (Q.take i).map fun q => (tx ss q.toNat : Int) + 1
theorem eqP_succ (ss : List ByteArray) (g : Bool) (Q : List Int) {i : Nat} (h : i < Q.length) : eqP ss g Q (i + 1) = eqP ss g Q i ++ [(tx ss (Q.getD i 0).toNat : Int) + 1] := by
  unfold eqP
  rw [List.take_succ_eq_append_getElem h, List.map_append, List.append_assoc, List.getD_eq_getElem?_getD, List.getElem?_eq_getElem h]
  rfl
theorem eqP_zero (ss : List ByteArray) (g : Bool) (Q : List Int) : eqP ss g Q 0 = fstL g := by simp [eqP]
theorem eqP_len (ss : List ByteArray) (g : Bool) (Q : List Int) (i : Nat) : (eqP ss g Q i).length ≤ 1 + i := by
  unfold eqP fstL
  rw [List.length_append, List.length_map, List.length_take]
  cases g <;> simp <;> omega
theorem eqP_all (ss : List ByteArray) (p : ByteArray) : eqP ss (isF ss (cutV ss p)) (fndL (rowV ss) (0 :: (sy (cutV ss p) ++ [0]))) (fndL (rowV ss) (0 :: (sy (cutV ss p) ++ [0]))).length = eqV ss p := by
  unfold eqP
  rw [List.take_length, ← cut_eqV ss p, ← eqF_eq ss (cutV ss p)]
  unfold eqF fstL isF
  by_cases h : 0 < ss.length ∧ tV ss 0 = cutV ss p <;> simp [h]
theorem isF_cut (ss : List ByteArray) (p : ByteArray) : isF ss (cutV ss p) = isF ss p := by
  unfold isF
  rw [decide_eq_decide]
  refine and_congr_right fun h => cut_eq p h

theorem row_eq {u : World} {base : Nat} {v : Value} {P R : List Int} (hR : 0 :: (P ++ [0]) = R) (h : u.ownsRow base 3 1 v (([0] ++ P : List Int).length + 1) (([0] ++ P : List Int).map (Value.int .i64) ++ ([0] : List Int).map (Value.int .i64))) : u.ownsRow base 3 1 v (P.length + 2) (R.map (Value.int .i64)) := by
  rw [← hR]
  have e : ([0] ++ P : List Int).length + 1 = P.length + 2 := by first | (simp; done) | (simp; omega)
  rw [e] at h
  simpa using h
/-- A row that grows beside numbers that were told. -/
structure TWO (w : World) (v : Value) (l : List Int) (B : Option Addr) (Q : List Int) (wr : World) : Prop where
  own : OwnI w v l wr
  nums : NumsAt .i64 wr B Q
  lt : ∀ b off, B = some ⟨b, off, none⟩ → b < wr.heap.size
  ne : ∀ k, v.ownBlock = some k → ∀ b off, B = some ⟨b, off, none⟩ → b ≠ k
theorem TWO.kept {w u u' : World} {v : Value} {l Q : List Int} {B : Option Addr} (h : TWO w v l B Q u) (hb : Below u.heap.size u u') : TWO w v l B Q u' :=
  ⟨h.own.kept hb, h.nums.kept hb, fun b off e => Nat.lt_of_lt_of_le (h.lt b off e) hb.size, h.ne⟩
theorem TWO.app {w u u' : World} {v v' : Value} {l l' Q : List Int} {B : Option Addr} (h : TWO w v l B Q u) (hown : u'.ownsRow w.heap.size 3 1 v' l'.length (l'.map (Value.int .i64))) (hg : u.grownBy u' v.ownBlock) (hn : v'.ownBlock = v.ownBlock ∨ v'.ownBlock = some u.heap.size) : TWO w v' l' B Q u' := by
  have hk : Kp (fun k => v.ownBlock = some k) u u' := (Kp.refl _ u).grown hg (fun k hk _ => hk)
  refine ⟨h.own.app hown hg, nums_kp h.nums hk (fun b o e ek => h.ne b ek b o e rfl), fun b off e => Nat.lt_of_lt_of_le (h.lt b off e) hk.size, fun k ek b off e => ?_⟩
  rcases hn with hn | hn
  · exact h.ne k (by rw [← hn]; exact ek) b off e
  · have := h.lt b off e
    rw [hn] at ek
    have := Option.some.inj ek
    omega

set_option linter.unusedSimpArgs false in
set_option maxHeartbeats 8000000 in
theorem equal_v (p : ByteArray) (h : VI w F E ss) (hp : p.size ≤ 100000) : Calls Tryz.prog 28 #[.agg #[.int .i64 (F.N : Int), .int .i64 F.Z, .slice F.wa F.wW F.wc, .int .i64 (F.R.n : Int), .slice F.R.a F.R.m F.R.c, .int .i64 (F.R.cn : Int), .int .i64 (F.R.cW : Int), .int .i64 (F.R.cL : Int), .slice F.R.a2 F.R.m2 F.R.c2, .int .i64 (F.S.n : Int), .int .i64 (F.S.W : Int), .int .i64 (F.S.L : Int), .slice F.S.a F.S.m F.S.c, .int .i64 (F.P.n : Int), .int .i64 (F.P.W : Int), .int .i64 (F.P.L : Int), .slice F.P.a F.P.m F.P.c, .slice E ss.length c], .string p] w fun e u' => ∃ v, e = .returned v ∧ OwnI w v (eqV ss p) u' := by
  have hA : VX w w.heap.size F E c ss _ := VX.new h
  have hfs := fun (u : World) (hu : VX w w.heap.size F E c ss u) => hu.first p
  have hsy := fun (u : World) (hu : VX w w.heap.size F E c ss u) => hu.symbols p (by omega)
  have htx := fun (u : World) (hu : VX w w.heap.size F E c ss u) (q : Nat) (hq : q < bg ss ss.length) => hu.text q hq
  have heq := eqP_all ss p
  have hgl := eqP_len ss (isF ss p)
  rw [isF_cut] at heq
  have hPl : (sy (cutV ss p)).length ≤ 100000 := by rw [sy_len, cut_size]; omega
  have hfew := h.few
  obtain ⟨g, hg⟩ : ∃ g, isF ss p = g := ⟨_, rfl⟩
  obtain ⟨P, hP⟩ : ∃ P, sy (cutV ss p) = P := ⟨_, rfl⟩
  rw [hg] at hfs heq hgl
  rw [hP] at hsy hPl heq
  have hQl : (0 :: (P ++ [0])).length = P.length + 2 := by simp
  obtain ⟨R, hR⟩ : ∃ R, (0 :: (P ++ [0]) : List Int) = R := ⟨_, rfl⟩
  rw [hR] at heq hQl
  have hfd := fun (u : World) (A : Option Addr) (ac : Nat) (hu : VX w w.heap.size F E c ss u) (hN : NumsAt .i64 u A R) => find_own hu.vi.fm A (P.length + 2) ac R hN hQl (by omega)
  have hfq : ∀ i, i < (fndL (rowV ss) R).length → ∃ q : Nat, (fndL (rowV ss) R).getD i 0 = (q : Int) ∧ q < bg ss ss.length := fun i hi => by
    obtain ⟨q, h1, h2, h3⟩ := fnd_is'.1 (getD_mem (b := 0) hi)
    refine ⟨q, h1, ?_⟩
    have := ((st_at _ _).1 h3).1
    rw [← row_len]
    omega
  have hfl : (fndL (rowV ss) R).length ≤ 1001 := by
    have := fndL_len h.fm.i64 h.fm.nn R
    have := frN_le (rowV ss) true R
    have := h.fm.len
    omega
  obtain ⟨Q, hQ⟩ : ∃ Q, fndL (rowV ss) R = Q := ⟨_, rfl⟩
  rw [hQ] at heq hfq hfl
  simp only [hQ] at hfd
  obtain ⟨m, hm⟩ : ∃ m, Q.length = m := ⟨_, rfl⟩
  rw [hm] at heq hfq hfl
  have htm : ∀ q : Nat, tx ss q ≤ 1000 := fun q => by
    have h1 : tx ss q ≤ ss.length := by
      unfold tx
      have := List.countP_le_length (p := fun i => decide (bg ss (i + 1) ≤ q)) (l := List.range ss.length)
      rwa [List.length_range] at this
    have := len_bg ss ss.length
    omega
  have HC := Lib.hid (And.intro hfs (And.intro hsy (And.intro htx (And.intro heq (And.intro hgl (And.intro hfd (And.intro hfq (And.intro hm (And.intro htm hR)))))))))
  have HL := Lib.hid hPl
  clear hfs hsy htx heq hgl hfd hfq hm hPl hg hP hQ hR hQl hfew h htm
  go_enter Tryz.func28, Tryz.ntmps28
  go_upto_region 2 with fail
  obtain ⟨w1, hw1⟩ : ∃ w1, w.alloc (.cells #[.int .i64 (F.N : Int), .int .i64 F.Z, .slice F.wa F.wW F.wc, .int .i64 (F.R.n : Int), .slice F.R.a F.R.m F.R.c, .int .i64 (F.R.cn : Int), .int .i64 (F.R.cW : Int), .int .i64 (F.R.cL : Int), .slice F.R.a2 F.R.m2 F.R.c2, .int .i64 (F.S.n : Int), .int .i64 (F.S.W : Int), .int .i64 (F.S.L : Int), .slice F.S.a F.S.m F.S.c, .int .i64 (F.P.n : Int), .int .i64 (F.P.W : Int), .int .i64 (F.P.L : Int), .slice F.P.a F.P.m F.P.c, .slice E ss.length c] 40) = w1 := ⟨_, rfl⟩
  obtain ⟨bx, hbx⟩ : ∃ bx, w.heap.size = bx := ⟨_, rfl⟩
  rw [hw1, hbx] at hA
  rw [hbx] at HC
  simp only [hw1, hbx]
  clear hw1
  have HA := Lib.hid hA
  clear hA
  go_upto_if 11 with (first | (refine load40 HA.out _ (by with_reducible rfl) rfl rfl ?_) | (go_at_call 49; (with_reducible refine (HC.out.1 _ HA.out).mono ?_); rintro e u1 ⟨rfl, hA1⟩; have H1 := Lib.hid hA1; clear hA1))
  go_cut [5] from 12 to 14 (fun v5 wx => OwnI u1 v5 (fstL g) wx)
  case first =>
    cases g with
    | true =>
      go_wp2_with (first
        | (at_builtin
           refine wpList_append_nums rfl (.tmp 12) (.tmp 13) rfl u1.heap.size _ _ _ rfl (World.ownsRow_nil _ _ _ _) (some ⟨_, 0, none⟩) 1 1 [(0 : Int)] rfl rfl ?c1 (by simp) ?c2 ?c3 ?_))
      case c1 => exact nums_one _ _
      case c2 => simp
      case c3 => simp
      intro v' w5 hown hgrow _
      have hI5 := (show OwnI u1 (.slice none 0 0) [] (u1.alloc _) from ⟨World.ownsRow_nil _ _ _ _, al u1 _⟩).app (l' := [(0 : Int)]) (by simpa using hown) hgrow
      have HX5 := Lib.hid hI5
      clear hown hgrow hI5
      go_wp2
      go_meet
      exact HX5.out
    | false =>
      go_wp2
      go_meet
      exact ⟨World.ownsRow_nil _ _ _ _, Below.refl _ _⟩
  case rest =>
    have hI := hcut
    have hA2 := H1.out.kept hI.2
    have hlit : OwnI wc (.slice (some ⟨wc.heap.size, 0, none⟩) 1 1) [0] (wc.alloc (.cells #[.int .i64 0] 3)) := OwnI.lit (Below.refl _ _) [0] (by simp)
    have hA3 := hA2.kept (al wc (.cells #[.int .i64 0] 3))
    have H3 := Lib.hid (And.intro hA3 hlit)
    have H2 := Lib.hid (And.intro hA2 hI)
    clear hI hA2 hlit hA3 hcut
    go_wp2_with (first | (refine load40 H3.out.1 _ (by with_reducible rfl) rfl rfl ?_) | (go_at_call 47; (with_reducible refine (HC.out.2.1 _ H3.out.1).mono ?_); rintro e u3 ⟨A, ac, rfl, hN, hno, hb, -⟩; have H4 := Lib.hid (And.intro hN (And.intro hno (H3.out.2.kept hb))); clear hN hno hb) | (at_builtin; refine wpList_append_nums rfl (.tmp 15) (.tmp 18) rfl wc.heap.size _ _ _ rfl H4.out.2.2.1 A P.length ac P rfl rfl H4.out.1 H4.out.2.1 ?c2 ?c3 ?_))
    case c2 => have := HL.out; simp; omega
    case c3 => have := H4.out.2.2.2.size; omega
    intro v6 w5 hown hgrow _
    have hO := H4.out.2.2.app (l' := [0] ++ P) (by simpa [Nat.add_comm] using hown) hgrow
    clear hown hgrow H4 H3
    go_upto_region 5 with fail
    have hA := hO.2
    try simp only [List.append_eq, List.cons_append, List.nil_append]
    refine wp_region_held_drew (S := fun w' => Below wc.heap.size wc w') (by kernel_rfl) (hA.drew) (fun hHeld => ?_)
    replace hA := hA.drew
    refine wpAnyH_take (i := 0) (oi := ⟨some 20, _, _, _, _, _⟩) (v := ?_) rfl (by kernel_rfl) (by kernel_rfl) (by kernel_rfl) (fun _ _ _ h => h) (Or.inl ⟨by kernel_rfl, ?_⟩) (by assumption) ?_
    case refine_2 => (intro w hSw; go_simp; try (with_reducible rfl))
    try simp only [Act.put, List.setIfInBounds_toArray, List.set_cons_zero, List.set_cons_succ]
    refine wpAnyH_take (i := 1) (oi := ⟨some 21, _, _, _, _, _⟩) rfl (by kernel_rfl) (by kernel_rfl) (by kernel_rfl) (fun _ _ _ h => h) (yieldsIf_load_mid (by kernel_rfl) 37 _ rfl _ 0 rfl _ _ (fun w hw => MBx.range (H2.out.1.box.kept hw)) Tryz.underlying37 rfl (by kernel_rfl)) (by assumption) ?_
    try simp only [Act.put, List.setIfInBounds_toArray, List.set_cons_zero, List.set_cons_succ]
    refine wpAnyH_take (i := 2) (oi := ⟨some 22, _, _, _, _, _⟩) (v := ?_) rfl (by kernel_rfl) (by kernel_rfl) (by kernel_rfl) (fun _ _ _ h => h) (Or.inl ⟨by kernel_rfl, ?_⟩) (by assumption) ?_
    case refine_2 => (intro w hSw; go_simp; try (with_reducible rfl))
    try simp only [Act.put, List.setIfInBounds_toArray, List.set_cons_zero, List.set_cons_succ]
    refine wpAnyH_take (i := 7) (oi := ⟨some 27, _, _, _, _, _⟩) (v := ?_) rfl (by kernel_rfl) (by kernel_rfl) (by kernel_rfl) (fun _ _ _ h => h) (Or.inl ⟨by kernel_rfl, ?_⟩) (by assumption) ?_
    case refine_2 => (intro w hSw; go_simp; try (with_reducible rfl))
    try simp only [Act.put, List.setIfInBounds_toArray, List.set_cons_zero, List.set_cons_succ]
    refine wpAnyH_ready (rs := [3]) (by kernel_rfl) (by simp) ?_
    refine AllReadyH.cons rfl (fun K hK => ?_) AllReadyH.nil
    go_simp
    have hO3 := (hO.alloc (.cells #[.int .i64 0] 3)).kept ((Below.refl _ _).drew)
    have hn3 : NumsAt .i64 (w5.alloc (.cells #[.int .i64 0] 3)).drew (some ⟨w5.heap.size, 0, none⟩) [0] := (nums_one w5 0).kept ((Below.refl _ _).drew)
    replace hA := hO3.2
    clear hHeld
    refine hK.out _ _ (hA) (fun hHeld => ?_)
    clear hK K
    try simp only [Act.put, List.setIfInBounds_toArray, List.set_cons_zero, List.set_cons_succ]
    refine wpAnyH_ready (rs := [4]) (by kernel_rfl) (by simp) ?_
    refine AllReadyH.cons rfl (fun K hK => ?_) AllReadyH.nil
    refine step_append_nums rfl (.tmp 22) (.tmp 23) rfl wc.heap.size _ _ _ rfl hO3.1 ⟨_, 0, none⟩ 1 1 [(0 : Int)] rfl rfl hn3 (by have := HL.out; simp; omega) hO3.2.size ?_
    intro v7 w7 hown hgrow
    have hI7 := hO3.app (l' := ([0] ++ P) ++ [0]) (by simpa [Nat.add_comm] using hown) hgrow
    obtain ⟨A7, c7, rfl, hN7, -, -, -, -⟩ := nums_of_own (row_eq HC.out.2.2.2.2.2.2.2.2.2 hown)
    replace hA := hI7.2
    clear hI7 hown hgrow hO3 hn3
    clear hHeld
    refine hK.out _ _ (hA) (fun hHeld => ?_)
    clear hK K
    try simp only [Act.put, List.setIfInBounds_toArray, List.set_cons_zero, List.set_cons_succ]
    refine wpAnyH_ready (rs := [5]) (by kernel_rfl) (by simp) ?_
    refine AllReadyH.cons rfl (fun K hK => ?_) AllReadyH.nil
    go_simp
    (with_reducible refine (HC.out.2.2.2.2.2.1 _ _ _ (H2.out.1.kept hA) hN7).mono ?_)
    rintro e u8 ⟨v8, rfl, hI8⟩
    obtain ⟨B8, c8, rfl, hN8, -, -, -, -⟩ := nums_of_own hI8.1
    have hs7 := hA.size
    replace hA := hA.trans (hI8.2.mono hA.size)
    clear hHeld
    refine hK.out _ _ (hA) (fun hHeld => ?_)
    clear hK K
    try simp only [Act.put, List.setIfInBounds_toArray, List.set_cons_zero, List.set_cons_succ]
    refine wpAnyH_take (i := 6) (oi := ⟨some 26, _, _, _, _, _⟩) (v := ?_) rfl (by kernel_rfl) (by kernel_rfl) (by kernel_rfl) (fun _ _ _ h => h) (Or.inl ⟨by kernel_rfl, ?_⟩) (by assumption) ?_
    case refine_2 => (intro w hSw; go_simp; try (with_reducible rfl))
    try simp only [Act.put, List.setIfInBounds_toArray, List.set_cons_zero, List.set_cons_succ]
    refine wpAnyH_done (by kernel_rfl) ?_ _
    clear hHeld
    have HT := Lib.hid (show TWO u1 u5 (eqP ss g Q 0) B8 Q u8 from ⟨by rw [eqP_zero]; exact H2.out.2.kept hA, hN8, fun b off e => (hI8.1.lt b (by rw [e]; rfl)).2, fun k ek b off e => by have h1 := (H2.out.2.1.lt k ek).2; have h2 := (hI8.1.lt b (by rw [e]; rfl)).1; omega⟩)
    clear hA hI8 hN8 hs7 hN7 hO
    rw [HC.out.2.2.2.2.2.2.2.1]
    go_wp2
    go_loopw [5, 8, 27] (fun v5 _ v27 wr => ∃ i : Nat, i ≤ m ∧ v27 = .int .i64 (i : Int) ∧ TWO u1 v5 (eqP ss g Q i) B8 Q wr) (fun _ _ v27 _ => m - (intOf v27).toNat)
    case atStart => exact ⟨0, Nat.zero_le _, rfl, HT.out⟩
    case round =>
      obtain ⟨i, hin, rfl, hT⟩ := hrel
      by_cases hlt : i < m
      · obtain ⟨bb, off, hBe, hbl, hc⟩ := num_at hT.nums (i := i) (by rw [HC.out.2.2.2.2.2.2.2.1]; exact hlt)
        obtain ⟨q, hq1, hq2⟩ := HC.out.2.2.2.2.2.2.1 i hlt
        have hsu := eqP_succ ss g Q (i := i) (by rw [HC.out.2.2.2.2.2.2.2.1]; exact hlt)
        have hml := HC.out.2.2.2.2.1 Q i
        have hVr := H1.out.kept hT.own.2
        have htx := HC.out.2.2.1 _ hVr q hq2
        have htm := HC.out.2.2.2.2.2.2.2.2.1 q
        rw [hq1] at hc hsu
        rw [Int.toNat_natCast] at hsu
        obtain ⟨t, ht⟩ : ∃ t, tx ss q = t := ⟨_, rfl⟩
        rw [ht] at htx hsu htm
        have HX := Lib.hid (And.intro hT (And.intro hsu (And.intro hml (And.intro hVr htx))))
        have q1 : (i : Int) < (m : Int) := by omega
        have q2 : (0 : Int) ≤ (i : Int) := by omega
        have q3 : IntKind.i64.wrap ((t : Int) + 1) = (t : Int) + 1 := IntWalk.i64_in _ (by omega)
        clear hT hsu hml hVr htx hq1 ht htm
        subst hBe
        go_wp2_with (refine load40 HX.out.2.2.2.1 _ (by with_reducible rfl) rfl rfl ?_)
        (with_reducible refine HX.out.2.2.2.2.mono ?_)
        rintro e w9 ⟨rfl, hb9, -⟩
        have HT9 := Lib.hid ((HX.out.1.kept hb9).kept (al w9 (.cells #[.int .i64 ((t : Int) + 1)] 3)))
        have hs9 := (HX.out.1.kept hb9).own.2.size
        clear hb9 hc
        go_wp2_with (first | (at_builtin; refine wpList_append_nums rfl (.tmp 31) (.tmp 36) rfl u1.heap.size _ _ _ rfl HT9.out.own.1 (some ⟨_, 0, none⟩) 1 1 [(t : Int) + 1] rfl rfl ?d1 (by simp) ?d2 ?d3 ?_))
        case d1 => exact nums_one _ _
        case d2 => have := HX.out.2.2.1; omega
        case d3 => first | omega | (simp; omega)
        intro v10 w10 hown hgrow hnb
        have hT10 := HT9.out.app (l' := eqP ss g Q i ++ [(t : Int) + 1]) (by simpa using hown) hgrow (by simpa using hnb)
        rw [← HX.out.2.1] at hT10
        have HT10 := Lib.hid hT10
        clear hown hgrow hnb hT10
        go_wp2
        go_roundw
        case rel => exact ⟨i + 1, by omega, by go_num, HT10.out⟩
        case measure => simp [intOf]; omega
      · obtain rfl : i = m := by omega
        have hO := hT.own
        rw [HC.out.2.2.2.1] at hO
        have HO := Lib.hid (hO.ofv H1.out.bel)
        have q1 : ¬ (i : Int) < (i : Int) := by omega
        clear hT hO
        go_wp2
        go_ret
        exact ⟨_, rfl, HO.out⟩

end Go.Proofs.YtpnjccomngdblaaGreat
end

section
/- The contract of Ids, and of its closure. -/
set_option maxRecDepth 100000
namespace Go.Proofs.YtpnjccomngdblaaGreat
open Go.RowKit
open M
attribute [local go_sem ↓] Go.wp_at_zero Go.wp_at_succ

variable {w u w' : World} {b c : Nat} {F : FQ} {E : Option Addr} {ss : List ByteArray}
/-- A row that grows, in its box. -/
structure ID (wB : World) (fb : Nat) (v : Value) (l : List Int) (wr : World) : Prop where
  cell : wr.cell? ⟨fb, 0, none⟩ = some v
  frz : wr.frozen? ⟨fb, 0, none⟩ = false
  own : wr.ownsRow wB.heap.size 3 1 v l.length (l.map (Value.int .i64))
  kp : Kp (fun k => k = fb) wB wr
theorem ID.kept {wB u u' : World} {fb : Nat} {v : Value} {l : List Int} (h : ID wB fb v l u) (hb : Below u.heap.size u u') : ID wB fb v l u' := by
  have hlt := World.block_lt_of_cell? u _ h.cell
  exact ⟨by rw [hb.cell (p := ⟨fb, 0, none⟩) hlt]; exact h.cell, by rw [hb.frozen (p := ⟨fb, 0, none⟩) hlt]; exact h.frz, own_kept h.own hb, h.kp.below hb⟩
theorem ID.grown {wB u u' : World} {fb : Nat} {v : Value} {l : List Int} (h : ID wB fb v l u) (hfb : fb < wB.heap.size) (hg : u.grownBy u' v.ownBlock) : u'.cell? ⟨fb, 0, none⟩ = some v ∧ u'.frozen? ⟨fb, 0, none⟩ = false := by
  have hlt := World.block_lt_of_cell? u _ h.cell
  have hk : Kp (fun k => v.ownBlock = some k) u u' := (Kp.refl _ u).grown hg (fun k hk _ => hk)
  have hne : ¬ v.ownBlock = some fb := fun e => by have := (h.own.lt fb e).1; omega
  exact ⟨by rw [hk.cell (p := ⟨fb, 0, none⟩) hlt hne]; exact h.cell, by rw [hk.frozen (p := ⟨fb, 0, none⟩) hlt hne]; exact h.frz⟩
theorem ID.put {wB u u' : World} {fb : Nat} {v v' : Value} {l l' : List Int} (h : ID wB fb v l u) (hfb : fb < wB.heap.size) (hown : u'.ownsRow wB.heap.size 3 1 v' l'.length (l'.map (Value.int .i64))) (hg : u.grownBy u' v.ownBlock) : ID wB fb v' l' (u'.setCell ⟨fb, 0, none⟩ v') := by
  obtain ⟨h1, h2⟩ := h.grown hfb hg
  have hk : Kp (fun k => k = fb) wB u' := h.kp.grown hg (fun k hk hlt => by have := (h.own.lt k hk).1; omega)
  refine ⟨?_, by rw [World.frozen?_setCell]; exact h2, ?_, hk.setCell (.inl rfl) _⟩
  · rw [cell_set _ _ _ _ _ _ h1]; simp
  · exact own_kp hown ((Kp.refl _ u').setCell (X := fun k => k = fb) (p := ⟨fb, 0, none⟩) (.inl rfl) v') (fun k e ek => by have := (hown.lt k e).1; omega)

/-- What the closure has beside it. -/
structure IDX (w : World) (bx : Nat) (F : FQ) (E : Option Addr) (c : Nat) (ss : List ByteArray) (fb : Nat) (wB : World) : Prop where
  v0 : VI w F E ss
  vx : VX w bx F E c ss wB
  lo : w.heap.size ≤ fb
  lt : fb < wB.heap.size
  ne : bx ≠ fb
theorem IDX.at_ {w wB wr : World} {bx fb : Nat} (h : IDX w bx F E c ss fb wB) (hk : Kp (fun k => k = fb) wB wr) : VX w bx F E c ss wr := by
  have hb : Below w.heap.size w wr := h.vx.bel.trans (hk.toBelow h.vx.bel.size (fun k hk2 e => by have := h.lo; omega))
  have cl : ∀ o, wr.cell? ⟨bx, o, none⟩ = wB.cell? ⟨bx, o, none⟩ := fun o => hk.cell (p := ⟨bx, o, none⟩) h.vx.box.lt h.ne
  obtain ⟨c0, c1, c2, c3, c4, c5, c6, c7, c8, c9, c10, c11, c12, c13, c14, c15, c16⟩ := h.vx.box
  exact ⟨⟨by rw [cl]; exact c0, by rw [cl]; exact c1, by rw [cl]; exact c2, by rw [cl]; exact c3, by rw [cl]; exact c4, by rw [cl]; exact c5, by rw [cl]; exact c6, by rw [cl]; exact c7, by rw [cl]; exact c8, by rw [cl]; exact c9, by rw [cl]; exact c10, by rw [cl]; exact c11, by rw [cl]; exact c12, by rw [cl]; exact c13, by rw [cl]; exact c14, by rw [cl]; exact c15, by rw [cl]; exact c16⟩,
    by rw [cl]; exact h.vx.c17, h.v0.kept hb, hb⟩

set_option maxHeartbeats 4000000 in
theorem tell_any {wB : World} {bx fb : Nat} {v : Value} {f ps : List Int} (hX : IDX w bx F E c ss fb wB) (hI : ID wB fb v f u) (q : Nat) (hq : q < bg ss ss.length) (hD : DDV ss ps f) (hup : ∀ y ∈ ps, y ≤ (q : Int)) (hfl : f.length ≤ 100000) :
    Calls Tryz.prog 45 #[.int .i64 (q : Int), .pointer (some ⟨bx, 0, none⟩), .pointer (some ⟨fb, 0, none⟩)] u fun e u' => e = .returned (.tuple #[]) ∧ ∃ v' f', ID wB fb v' f' u' ∧ DDV ss (ps ++ [(q : Int)]) f' ∧ f'.length ≤ f.length + 1 := by
  have hV := hX.at_ hI.kp
  have htx := hV.text q hq
  obtain ⟨A, cp, rfl, hN, -, hcp, -, -⟩ := nums_of_own hI.own
  have hlast := fun (m : Nat) => hD.last (q := (q : Int)) (m := m) hup
  have hsame := hD.same (q := (q : Int))
  have hmore := hD.more (q := (q : Int)) hup
  rw [Int.toNat_natCast] at hlast hsame hmore
  obtain ⟨t, ht⟩ : ∃ t, tx ss q = t := ⟨_, rfl⟩
  rw [ht] at htx hlast hsame hmore
  have hlt := hX.lt
  have HX := Lib.hid (And.intro hV (And.intro htx (And.intro hlast (And.intro hsame (And.intro hmore hlt)))))
  have HI := Lib.hid (And.intro hI hN)
  have hcell := hI.cell
  have hfrz := hI.frz
  clear hX hV htx hlast hsame hmore hlt hI hN hD hup ht
  go_enter Tryz.func45, Tryz.ntmps45
  go_upto_region 1 with (first | (refine load40 HX.out.1 _ (by with_reducible rfl) rfl rfl ?_) | ((with_reducible refine HX.out.2.1.mono ?_); rintro e u1 ⟨rfl, hb, -⟩; have H1 := Lib.hid (And.intro (HI.out.1.kept hb) (HI.out.2.kept hb)); clear hb hcell hfrz))
  have hcell := H1.out.1.cell
  have hfrz := H1.out.1.frz
  obtain ⟨n, hn⟩ : ∃ n, f.length = n := ⟨_, rfl⟩
  cases n with
  | zero =>
    have e0 : f = [] := List.eq_nil_of_length_eq_zero hn
    subst e0
    have hq0 : ((([] : List Int).length : Int) == 0) = true := rfl
    go_wp2_with (first | (at_builtin; refine wpList_append_nums rfl (.tmp 21) (.tmp 23) rfl wB.heap.size _ _ _ rfl (H1.out.1.kept (al u1 (.cells #[.int .i64 (t : Int)] 3))).own (some ⟨_, 0, none⟩) 1 1 [(t : Int)] rfl rfl ?c1 (by simp) ?c2 ?c3 ?_))
    case c1 => exact nums_one _ _
    case c2 => omega
    case c3 => have := H1.out.1.kp.size; first | omega | (simp; omega)
    intro v' w5 hown hgrow _
    have hg := (H1.out.1.kept (al u1 (.cells #[.int .i64 (t : Int)] 3))).grown HX.out.2.2.2.2.2 hgrow
    have hp := (H1.out.1.kept (al u1 (.cells #[.int .i64 (t : Int)] 3))).put (l' := ([] : List Int) ++ [(t : Int)]) HX.out.2.2.2.2.2 (by simpa using hown) hgrow
    obtain ⟨A', cp', rfl, -, -, -, -, -⟩ := nums_of_own hp.own
    obtain ⟨z1, z2⟩ := hg
    have HP := Lib.hid hp
    clear hown hgrow hp hcell hfrz
    go_wp2
    go_end0
    exact ⟨rfl, _, _, HP.out, HX.out.2.2.2.2.1 (fun x hx => by simp at hx), by simp⟩
  | succ m =>
    obtain ⟨bb, off, hAe, _, hcm⟩ := num_at H1.out.2 (i := m) (by omega)
    subst hAe
    obtain ⟨l1, l2⟩ := HX.out.2.2.1 m hn
    obtain ⟨x, hx⟩ : ∃ x, f.getD m 0 = x := ⟨_, rfl⟩
    rw [hx] at hcm l1 l2
    have hq0 : ((f.length : Int) == 0) = false := by rw [hn]; simp; omega
    have q1 : IntKind.i64.wrap ((f.length : Int) - 1) = (m : Int) := by rw [hn, show ((m + 1 : Nat) : Int) - 1 = (m : Int) by omega]; exact IntWalk.i64_in _ (by omega)
    have q2 : (m : Int) < (f.length : Int) := by omega
    have q3 : (0 : Int) ≤ (m : Int) := by omega
    have HN := Lib.hid hn
    clear hn hx
    by_cases e : x = (t : Int)
    · subst e
      have q4 : ((t : Int) != (t : Int)) = false := by simp
      have HF := Lib.hid (HX.out.2.2.2.1 (l1 rfl))
      clear l1 l2
      go_wp2
      go_end0
      exact ⟨rfl, _, _, H1.out.1, HF.out, by omega⟩
    · have q4 : (x != (t : Int)) = true := by simpa using e
      have HL2 := Lib.hid (l2 e)
      clear l1 l2 e
      go_wp2_with (first | (at_builtin; refine wpList_append_nums rfl (.tmp 21) (.tmp 23) rfl wB.heap.size _ _ _ rfl (H1.out.1.kept (al u1 (.cells #[.int .i64 (t : Int)] 3))).own (some ⟨_, 0, none⟩) 1 1 [(t : Int)] rfl rfl ?c1 (by simp) ?c2 ?c3 ?_))
      case c1 => exact nums_one _ _
      case c2 => omega
      case c3 => have := H1.out.1.kp.size; first | omega | (simp; omega)
      intro v' w5 hown hgrow _
      have hg := (H1.out.1.kept (al u1 (.cells #[.int .i64 (t : Int)] 3))).grown HX.out.2.2.2.2.2 hgrow
      have hp := (H1.out.1.kept (al u1 (.cells #[.int .i64 (t : Int)] 3))).put (l' := f ++ [(t : Int)]) HX.out.2.2.2.2.2 (by simpa using hown) hgrow
      obtain ⟨A', cp', rfl, -, -, -, -, -⟩ := nums_of_own hp.own
      obtain ⟨z1, z2⟩ := hg
      have HP := Lib.hid hp
      clear hown hgrow hp hcell hfrz
      go_wp2
      go_end0
      exact ⟨rfl, _, f ++ [(t : Int)], by have := HP.out; rw [List.length_append] at this; exact this, HX.out.2.2.2.2.1 HL2.out, by simp⟩

theorem DDV.len_le {ps f : List Int} (h : DDV ss ps f) : f.length ≤ ps.length := by
  have h1 : f.Nodup := h.pw.imp (fun hab e => by omega)
  have h2 : f ⊆ ps.map fun q => (tx ss q.toNat : Int) := fun x hx => by
    obtain ⟨q, hq, rfl⟩ := (h.mem x).1 hx
    exact List.mem_map.2 ⟨q, hq, rfl⟩
  have := nodup_len h1 h2
  rwa [List.length_map] at this

end Go.Proofs.YtpnjccomngdblaaGreat
end

section
/- The contract of Ids. -/
set_option maxRecDepth 100000
namespace Go.Proofs.YtpnjccomngdblaaGreat
open Go.RowKit
open M
attribute [local go_sem ↓] Go.wp_at_zero Go.wp_at_succ

variable {w u w' : World} {b c : Nat} {F : FQ} {E : Option Addr} {ss : List ByteArray}
/-- The places that are gone over. -/
def plQ (ss : List ByteArray) (p : ByteArray) : List Int := if p.size = 0 then endV ss else fndL (rowV ss) (sy (cutV ss p))
theorem plQ_up (ss : List ByteArray) (p : ByteArray) : (plQ ss p).Pairwise (· < ·) := by
  unfold plQ; split
  · exact end_asc ss
  · exact fndL_pw _ _
theorem plQ_in (ss : List ByteArray) (p : ByteArray) {i : Nat} (hi : i < (plQ ss p).length) : ∃ q : Nat, (plQ ss p).getD i 0 = (q : Int) ∧ q < bg ss ss.length := by
  unfold plQ at hi ⊢
  split at hi
  · rename_i h0
    rw [if_pos h0]
    rw [end_len] at hi
    exact ⟨_, end_at ss hi, bg_lt ss hi⟩
  · rename_i h0
    rw [if_neg h0]
    obtain ⟨q, h1, h2, h3⟩ := fnd_is'.1 (getD_mem (b := 0) hi)
    refine ⟨q, h1, ?_⟩
    have := ((st_at _ _).1 h3).1
    have := cut_none (ss := ss) (p := p) (by omega)
    rw [sy_len] at *
    rw [← row_len]
    omega
theorem plQ_len (h : VI w F E ss) (p : ByteArray) : (plQ ss p).length ≤ 1001 := by
  have hf := h.few
  unfold plQ
  split
  · rw [end_len]; have := len_bg ss ss.length; omega
  · have := fndL_len h.fm.i64 h.fm.nn (sy (cutV ss p))
    have := frN_le (rowV ss) true (sy (cutV ss p))
    have := h.fm.len
    omega
theorem plQ_end (ss : List ByteArray) (p : ByteArray) {f : List Int} (h : DDV ss (plQ ss p) f) : f = idsV ss p := by
  unfold plQ at h
  split at h
  · rename_i h0; exact h.all h0
  · rename_i h0
    rw [← cut_ids]
    exact h.ids (cut_none (by omega))
theorem up_take {Q : List Int} (h : Q.Pairwise (· < ·)) {i : Nat} (hi : i < Q.length) : ∀ y ∈ Q.take i, y ≤ Q.getD i 0 := by
  intro y hy
  obtain ⟨j, hj, rfl⟩ := List.getElem_of_mem hy
  rw [List.length_take] at hj
  rw [List.getElem_take, List.getD_eq_getElem?_getD, List.getElem?_eq_getElem hi, Option.getD_some]
  exact Int.le_of_lt (List.pairwise_iff_getElem.1 h j i (by omega) hi (by omega))
theorem take_step {Q : List Int} {i : Nat} (hi : i < Q.length) : Q.take (i + 1) = Q.take i ++ [Q.getD i 0] := by
  rw [List.take_add_one, List.getElem?_eq_getElem hi, List.getD_eq_getElem?_getD, List.getElem?_eq_getElem hi]
  rfl

theorem below_ofdrew {w u : World} (h : Below w.drew.heap.size w.drew u) : Below w.heap.size w u := ((Below.refl w.heap.size w).drew).trans h
set_option linter.unusedSimpArgs false in
set_option maxHeartbeats 8000000 in
theorem ids_v (p : ByteArray) (h : VI w F E ss) (hp : p.size ≤ 100000) : Calls Tryz.prog 26 #[.agg #[.int .i64 (F.N : Int), .int .i64 F.Z, .slice F.wa F.wW F.wc, .int .i64 (F.R.n : Int), .slice F.R.a F.R.m F.R.c, .int .i64 (F.R.cn : Int), .int .i64 (F.R.cW : Int), .int .i64 (F.R.cL : Int), .slice F.R.a2 F.R.m2 F.R.c2, .int .i64 (F.S.n : Int), .int .i64 (F.S.W : Int), .int .i64 (F.S.L : Int), .slice F.S.a F.S.m F.S.c, .int .i64 (F.P.n : Int), .int .i64 (F.P.W : Int), .int .i64 (F.P.L : Int), .slice F.P.a F.P.m F.P.c, .slice E ss.length c], .string p] w fun e u' => ∃ v, e = .returned v ∧ OwnI w v (idsV ss p) u' := by
  obtain ⟨w1, hw1⟩ : ∃ w1, w1 = w.alloc (.cells #[.int .i64 (F.N : Int), .int .i64 F.Z, .slice F.wa F.wW F.wc, .int .i64 (F.R.n : Int), .slice F.R.a F.R.m F.R.c, .int .i64 (F.R.cn : Int), .int .i64 (F.R.cW : Int), .int .i64 (F.R.cL : Int), .slice F.R.a2 F.R.m2 F.R.c2, .int .i64 (F.S.n : Int), .int .i64 (F.S.W : Int), .int .i64 (F.S.L : Int), .slice F.S.a F.S.m F.S.c, .int .i64 (F.P.n : Int), .int .i64 (F.P.W : Int), .int .i64 (F.P.L : Int), .slice F.P.a F.P.m F.P.c, .slice E ss.length c] 40) := ⟨_, rfl⟩
  have hV1 : VX w w.heap.size F E c ss w1 := by rw [hw1]; exact VX.new h
  obtain ⟨w2, hw2⟩ : ∃ w2, w2 = w1.alloc (.cells #[.slice none 0 0] 38) := ⟨_, rfl⟩
  have hs1 : w1.heap.size = w.heap.size + 1 := by rw [hw1]; simp
  have hV2 : VX w w.heap.size F E c ss w2 := by rw [hw2]; exact hV1.kept (al w1 _)
  have hc2 : w2.cell? ⟨w.heap.size + 1, 0, none⟩ = some (.slice none 0 0) := by rw [hw2, ← hs1]; simp
  have hz2 : w2.frozen? ⟨w.heap.size + 1, 0, none⟩ = false := by rw [hw2, ← hs1]; exact frozen_new _ _ _ _ _ rfl
  have hs2 : w2.heap.size = w.heap.size + 2 := by rw [hw2]; simp [hs1]
  have hsy := fun (u : World) (hu : VX w w.heap.size F E c ss u) => hu.symbols p (by omega)
  have hPl : (sy (cutV ss p)).length ≤ 100000 := by rw [sy_len, cut_size]; omega
  have hQ1 := plQ_up ss p
  have hQ2 := fun (i : Nat) (hi : i < (plQ ss p).length) => plQ_in ss p hi
  have hQ3 := plQ_len h p
  have hQ4 := fun (f : List Int) (hf : DDV ss (plQ ss p) f) => plQ_end ss p hf
  have hfd := fun (u : World) (A : Option Addr) (ac : Nat) (hu : VX w w.heap.size F E c ss u) (hN : NumsAt .i64 u A (sy (cutV ss p))) => find_own hu.vi.fm A (sy (cutV ss p)).length ac (sy (cutV ss p)) hN rfl (by omega)
  have x17 := hV2.c17
  have hQe : p.size = 0 → plQ ss p = endV ss := fun h0 => by unfold plQ; rw [if_pos h0]
  have hQf : ¬ p.size = 0 → fndL (rowV ss) (sy (cutV ss p)) = plQ ss p := fun h0 => by unfold plQ; rw [if_neg h0]
  obtain ⟨Q, hQ⟩ : ∃ Q, plQ ss p = Q := ⟨_, rfl⟩
  rw [hQ] at hQ1 hQ3 hQe hQf
  simp only [hQ] at hQ2 hQ4
  obtain ⟨P, hP⟩ : ∃ P, sy (cutV ss p) = P := ⟨_, rfl⟩
  rw [hP] at hsy hPl hQf
  simp only [hP] at hfd
  have HC := Lib.hid (And.intro hsy (And.intro hfd (And.intro hQ1 (And.intro hQ2 (And.intro hQ3 (And.intro hQ4 (And.intro hQe hQf)))))))
  have HV := Lib.hid (And.intro h (And.intro hV2 (And.intro hc2 (And.intro hz2 (And.intro hs1 hs2)))))
  clear hsy hfd hQ1 hQ2 hQ3 hQ4 hQe hQf hQ hP hV1 hV2 hc2 hz2 hs1 hs2 h hPl
  go_enter Tryz.func26, Tryz.ntmps26
  go_upto_region 3 with fail
  rw [← hw1, ← hw2]
  clear hw1 hw2
  obtain ⟨bx, hbx⟩ : ∃ bx, w.heap.size = bx := ⟨_, rfl⟩
  rw [hbx] at HV x17
  rw [hbx] at HC
  simp only [hbx]
  go_upto_if 14 with fail
  obtain ⟨g, hg, hgi⟩ : ∃ g, (!p.toList.isEmpty) = g ∧ (g = true ↔ ¬ p.size = 0) := by
    refine ⟨_, rfl, ?_⟩
    rw [ByteArray.toList_eq, Bool.not_eq_true', List.isEmpty_eq_false_iff, ← ba_len]
    exact not_congr List.length_eq_zero_iff.symm
  rw [hg]
  have HG := Lib.hid hgi
  clear hg hgi
  go_cut [7, 14] from 15 to 20 (fun v7 _ wx => ∃ A n cp, v7 = .slice A n cp ∧ Q.length = n ∧ Below w2.heap.size w2 wx ∧ ∀ wr, Kp (fun k => k = bx + 1) wx wr → NumsAt .i64 wr A Q)
  case first =>
    cases g with
    | false =>
      have HQ := Lib.hid (HC.out.2.2.2.2.2.2.1 (Classical.byContradiction fun h => by have := HG.out.2 h; simp at this))
      go_wp2
      go_meet
      refine ⟨E, ss.length, c, rfl, by rw [HQ.out, end_len], Below.refl _ _, fun wr hk => ?_⟩
      rw [HQ.out]
      have hb : Below w.heap.size w wr := HV.out.2.1.bel.trans (hk.toBelow HV.out.2.1.bel.size (fun k hk2 e => by omega))
      exact HV.out.1.en.kept hb
    | true =>
      have HQ := Lib.hid (HC.out.2.2.2.2.2.2.2 (HG.out.1 rfl))
      go_upto_region 5 with fail
      have hA := HV.out.2.1
      try simp only [List.append_eq, List.cons_append, List.nil_append]
      refine wp_region_held_drew (S := fun w' => VX w bx F E c ss w') (by kernel_rfl) (hA.drew) (fun hHeld => ?_)
      replace hA := hA.drew
      refine wpAnyH_take (i := 0) (oi := ⟨some 15, _, _, _, _, _⟩) (v := ?_) rfl (by kernel_rfl) (by kernel_rfl) (by kernel_rfl) (fun _ _ _ h => h) (Or.inl ⟨by kernel_rfl, ?_⟩) (by assumption) ?_
      case refine_2 => (intro w hSw; go_simp; try (with_reducible rfl))
      try simp only [Act.put, List.setIfInBounds_toArray, List.set_cons_zero, List.set_cons_succ]
      refine wpAnyH_take (i := 1) (oi := ⟨some 16, _, _, _, _, _⟩) rfl (by kernel_rfl) (by kernel_rfl) (by kernel_rfl) (fun _ _ _ h => h) (yieldsIf_load_mid (by kernel_rfl) 37 _ rfl _ 0 rfl _ _ (fun w hw => MBx.range (VX.box hw)) Tryz.underlying37 rfl (by kernel_rfl)) (by assumption) ?_
      try simp only [Act.put, List.setIfInBounds_toArray, List.set_cons_zero, List.set_cons_succ]
      refine wpAnyH_take (i := 2) (oi := ⟨some 17, _, _, _, _, _⟩) rfl (by kernel_rfl) (by kernel_rfl) (by kernel_rfl) (fun _ _ _ h => h) (yieldsIf_load_mid (by kernel_rfl) 40 _ rfl _ 0 rfl _ _ (fun w hw => VX.range hw) Tryz.underlying40 rfl (by kernel_rfl)) (by assumption) ?_
      try simp only [Act.put, List.setIfInBounds_toArray, List.set_cons_zero, List.set_cons_succ]
      refine wpAnyH_take (i := 3) (oi := ⟨some 18, _, _, _, _, _⟩) (v := ?_) rfl (by kernel_rfl) (by kernel_rfl) (by kernel_rfl) (fun _ _ _ h => h) (Or.inl ⟨by kernel_rfl, ?_⟩) (by assumption) ?_
      case refine_2 => (intro w hSw; go_simp; try (with_reducible rfl))
      try simp only [Act.put, List.setIfInBounds_toArray, List.set_cons_zero, List.set_cons_succ]
      refine wpAnyH_ready (rs := [4]) (by kernel_rfl) (by simp) ?_
      refine AllReadyH.cons rfl (fun K hK => ?_) AllReadyH.nil
      go_simp
      (with_reducible refine (HC.out.1 _ hA).mono ?_)
      rintro e u3 ⟨A, ac, rfl, hN, -, hb, hA2⟩
      have hb2 := hb
      replace hA := hA2
      clear hA2 hb
      clear hHeld
      refine hK.out _ _ (hA) (fun hHeld => ?_)
      clear hK K
      try simp only [Act.put, List.setIfInBounds_toArray, List.set_cons_zero, List.set_cons_succ]
      refine wpAnyH_ready (rs := [5]) (by kernel_rfl) (by simp) ?_
      refine AllReadyH.cons rfl (fun K hK => ?_) AllReadyH.nil
      go_simp
      (with_reducible refine (HC.out.2.1 _ _ _ hA hN).mono ?_)
      rintro e u4 ⟨v, rfl, hI⟩
      replace hA := hA.kept hI.2
      clear hHeld
      refine hK.out _ _ (hA) (fun hHeld => ?_)
      clear hK K
      try simp only [Act.put, List.setIfInBounds_toArray, List.set_cons_zero, List.set_cons_succ]
      refine wpAnyH_take (i := 6) (oi := ⟨some 7, _, _, _, _, _⟩) (v := ?_) rfl (by kernel_rfl) (by kernel_rfl) (by kernel_rfl) (fun _ _ _ h => h) (Or.inl ⟨by kernel_rfl, ?_⟩) (by assumption) ?_
      case refine_2 => (intro w hSw; go_simp; try (with_reducible rfl))
      try simp only [Act.put, List.setIfInBounds_toArray, List.set_cons_zero, List.set_cons_succ]
      refine wpAnyH_done (by kernel_rfl) ?_ _
      clear hHeld
      rw [HQ.out] at hI
      obtain ⟨B, cp, rfl, hN4, -, -, -, -⟩ := nums_of_own hI.1
      have hlt := hI.1.lt
      have hb4 := hb2.trans (hI.2.mono hb2.size)
      have HB := Lib.hid (And.intro hN4 (And.intro hlt (And.intro hb4 (And.intro hb2.size hI.2.size))))
      clear hI hN hN4 hlt hb4 hb2 hA
      go_wp2
      go_meet
      refine ⟨B, Q.length, cp, rfl, rfl, below_ofdrew HB.out.2.2.1, fun wr hk => NumsAt.kp HB.out.1 hk (fun b o e ek => ?_)⟩
      have h1 := (HB.out.2.1 b (by rw [e]; rfl)).1
      have h2 := HB.out.2.2.2.1
      have h3 := HV.out.2.2.2.2.2
      simp at h2
      omega
  case rest =>
    obtain ⟨A, n, cp, rfl, hQn, hb, hnum⟩ := hcut
    obtain ⟨w3, rfl⟩ : ∃ w3, w3 = wc := ⟨_, rfl⟩
    obtain ⟨hv0, hv2, hc2, hz2, -, hs2⟩ := HV.out
    have hfl : bx + 1 < w2.heap.size := by omega
    have hX : IDX w bx F E c ss (bx + 1) w3 := ⟨hv0, hv2.kept hb, by omega, by have := hb.size; omega, by omega⟩
    have hI0 : ID w3 (bx + 1) (.slice none 0 0) [] w3 := ⟨by rw [hb.cell (p := ⟨bx + 1, 0, none⟩) hfl]; exact hc2, by rw [hb.frozen (p := ⟨bx + 1, 0, none⟩) hfl]; exact hz2, World.ownsRow_nil _ _ _ _, Kp.refl _ _⟩
    have HX := Lib.hid (And.intro hX (And.intro hI0 (And.intro hQn hnum)))
    have hn9 : n ≤ 1001 := by rw [← hQn]; exact HC.out.2.2.2.2.1
    clear hv0 hv2 hc2 hz2 hs2 hfl hX hI0 hQn hnum hb x17
    go_wp2
    go_loopw [9, 23] (fun _ v23 wr => ∃ i : Nat, i ≤ n ∧ v23 = .int .i64 (i : Int) ∧ ∃ v f, ID w3 (bx + 1) v f wr ∧ DDV ss (Q.take i) f) (fun _ v23 _ => n - (intOf v23).toNat)
    case atStart => exact ⟨0, Nat.zero_le _, rfl, _, _, HX.out.2.1, DDV.nil ss⟩
    case round =>
      obtain ⟨i, hin, rfl, v, f, hI, hD⟩ := hrel
      by_cases hlt : i < n
      · obtain ⟨bb, off, hAe, hbl, hc⟩ := num_at (HX.out.2.2.2 wr hI.kp) (i := i) (by rw [HX.out.2.2.1]; exact hlt)
        obtain ⟨q, hq1, hq2⟩ := HC.out.2.2.2.1 i (by rw [HX.out.2.2.1]; exact hlt)
        have hup := up_take HC.out.2.2.1 (i := i) (by rw [HX.out.2.2.1]; exact hlt)
        have hst := take_step (Q := Q) (i := i) (by rw [HX.out.2.2.1]; exact hlt)
        rw [hq1] at hc hup hst
        have hfl := hD.len_le
        rw [List.length_take] at hfl
        have htl := tell_any HX.out.1 hI q hq2 hD hup (by omega)
        rw [← hst] at htl
        have HT := Lib.hid htl
        have q1 : (i : Int) < (n : Int) := by omega
        have q2 : (0 : Int) ≤ (i : Int) := by omega
        subst hAe
        clear hI hD hq1 hq2 hup hst hfl htl
        go_wp2_with fail
        (with_reducible refine HT.out.mono ?_)
        rintro e u4 ⟨rfl, v', f', hI', hD', -⟩
        have HD := Lib.hid (And.intro hI' hD')
        clear hI' hD' HT
        go_wp2
        go_roundw
        case rel => exact ⟨i + 1, by omega, by go_num, _, _, HD.out.1, HD.out.2⟩
        case measure => simp [intOf]; omega
      · obtain rfl : i = n := by omega
        rw [← HX.out.2.2.1, List.take_length] at hD
        have hfe := HC.out.2.2.2.2.2.1 f hD
        have hcell := hI.cell
        have hV := HX.out.1.at_ hI.kp
        have ho : OwnI w v (idsV ss p) wr := ⟨by rw [← hfe]; exact own_mono hI.own HX.out.1.vx.bel.size, hV.bel⟩
        have HO := Lib.hid ho
        have q1 : ¬ (i : Int) < (i : Int) := by omega
        obtain ⟨A', cp', rfl, -, -, -, -, -⟩ := nums_of_own ho.1
        clear hD hfe hI hV ho
        go_wp2
        go_ret
        exact ⟨_, rfl, HO.out⟩

end Go.Proofs.YtpnjccomngdblaaGreat
end

section
/- The contracts of isKept and New. -/
set_option maxRecDepth 100000
namespace Go.Proofs.YtpnjccomngdblaaGreat
open Go.RowKit
open M
attribute [local go_sem ↓] Go.wp_at_zero Go.wp_at_succ

variable {w u w' : World} {b c : Nat} {F : FQ} {E : Option Addr} {ss : List ByteArray}
theorem bg_less (ss : List ByteArray) {i : Nat} : ∀ {n}, i ≤ n → bg ss i + (n - i) ≤ bg ss n := by
  intro n
  induction n with
  | zero => intro h; obtain rfl : i = 0 := by omega
            exact Nat.le_refl _
  | succ n ih =>
    intro h
    by_cases e : i = n + 1
    · subst e; omega
    · have := ih (by omega)
      rw [bg_up]; omega
set_option maxHeartbeats 2000000 in
theorem kept_ok (A : Option Addr) (n c : Nat) (ss : List ByteArray) (w : World) (hA : StrsAt w A ss) (hl : ss.length = n) (hB : bg ss n ≤ 100000) :
    Calls Tryz.prog 34 #[.slice A n c] w fun e u => e = .returned (.bool true) ∧ u = w := by
  have hn := len_bg ss n
  have hn2 : n ≤ 100000 := by omega
  have HX := Lib.hid (And.intro hA (And.intro hl hB))
  have q0 : IntKind.i64.wrap (1048576 - (n : Int)) = 1048576 - (n : Int) := IntWalk.i64_in _ (by omega)
  clear hA hl hB hn
  go_enter Tryz.func34, Tryz.ntmps34
  go_wp2
  go_loopw [3, 5, 11] (fun v3 _ v11 wr => ∃ i : Nat, i ≤ n ∧ v11 = .int .i64 (i : Int) ∧ v3 = .int .i64 (1048576 - (n : Int) - ((bg ss i - i : Nat) : Int)) ∧ wr = w) (fun _ _ v11 _ => n - (intOf v11).toNat)
  case atStart => exact ⟨0, Nat.zero_le _, rfl, by show _ = Value.int .i64 (1048576 - (n : Int) - 0); rw [Int.sub_zero], rfl⟩
  case round =>
    obtain ⟨i, hin, rfl, rfl, rfl⟩ := hrel
    have hii := len_bg ss i
    by_cases hlt : i < n
    · obtain ⟨bb, off, hAe, hbl, hcs⟩ := str_all HX.out.1 (by rw [HX.out.2.1]; omega)
      have hc := hcs i (by rw [HX.out.2.1]; omega) wr (Below.refl _ _)
      have hbu := bg_up ss i
      have hbm := bg_less ss (i := i + 1) (n := n) (by omega)
      have hB := HX.out.2.2
      obtain ⟨s, hs⟩ : ∃ s, tV ss i = s := ⟨_, rfl⟩
      rw [hs] at hc hbu
      obtain ⟨d, hd⟩ : ∃ d : Int, 1048576 - (n : Int) - ((bg ss i - i : Nat) : Int) = d := ⟨_, rfl⟩
      obtain ⟨d2, hd2⟩ : ∃ d2 : Int, 1048576 - (n : Int) - ((bg ss (i + 1) - (i + 1) : Nat) : Int) = d2 := ⟨_, rfl⟩
      rw [hd]
      have q1 : (i : Int) < (n : Int) := by omega
      have q2 : (0 : Int) ≤ (i : Int) := by omega
      have q3 : ¬ d < (s.size : Int) := by omega
      have q4 : IntKind.i64.wrap (d - (s.size : Int)) = d2 := by rw [show d - (s.size : Int) = d2 by omega]; exact IntWalk.i64_in _ (by omega)
      have HD := Lib.hid hd2
      subst hAe
      clear hcs hbu hbm hB hs hd hd2 hii
      go_wp2
      go_roundw
      case rel => exact ⟨i + 1, by omega, by go_num, by rw [HD.out], by first | rfl | trivial⟩
      case measure => simp [intOf]; omega
    · obtain rfl : i = n := by omega
      have hB := HX.out.2.2
      have q1 : ¬ (i : Int) < (i : Int) := by omega
      obtain ⟨d, hd⟩ : ∃ d : Int, 1048576 - (i : Int) - ((bg ss i - i : Nat) : Int) = d := ⟨_, rfl⟩
      rw [hd]
      have q2 : (0 : Int) ≤ d := by omega
      clear hd
      go_wp2
      go_ret
      exact ⟨rfl, rfl⟩

/-- Two rows of the call's own, side by side. -/
structure RE (w : World) (v4 : Value) (l4 : List Int) (v5 : Value) (l5 : List Int) (u : World) : Prop where
  o4 : OwnI w v4 l4 u
  o5 : OwnI w v5 l5 u
  dj : Dj v4 v5
theorem RE.kept {w u u' : World} {v4 v5 : Value} {l4 l5 : List Int} (h : RE w v4 l4 v5 l5 u) (hb : Below u.heap.size u u') : RE w v4 l4 v5 l5 u' := ⟨h.o4.kept hb, h.o5.kept hb, h.dj⟩
theorem RE.step4 {w u u' : World} {v4 v5 v' : Value} {l4 l5 l' : List Int} (h : RE w v4 l4 v5 l5 u) (hown : u'.ownsRow w.heap.size 3 1 v' l'.length (l'.map (Value.int .i64))) (hk : Kp (fun k => v4.ownBlock = some k) u u') (hn : v'.ownBlock = v4.ownBlock ∨ ∀ k, v'.ownBlock = some k → u.heap.size ≤ k) : RE w v' l' v5 l5 u' := by
  have hb : Below w.heap.size u u' := hk.toBelow h.o4.2.size (fun k hk2 e => by have := (h.o4.1.lt k e).1; omega)
  refine ⟨⟨hown, h.o4.2.trans hb⟩, ⟨own_kp h.o5.1 hk (fun k e ek => h.dj k ek e), h.o5.2.trans hb⟩, fun k e e5 => ?_⟩
  rcases hn with hn | hn
  · exact h.dj k (by rw [← hn]; exact e) e5
  · have h1 := hn k e
    have h2 := (h.o5.1.lt k e5).2
    omega
theorem RE.step5 {w u u' : World} {v4 v5 v' : Value} {l4 l5 l' : List Int} (h : RE w v4 l4 v5 l5 u) (hown : u'.ownsRow w.heap.size 3 1 v' l'.length (l'.map (Value.int .i64))) (hk : Kp (fun k => v5.ownBlock = some k) u u') (hn : v'.ownBlock = v5.ownBlock ∨ ∀ k, v'.ownBlock = some k → u.heap.size ≤ k) : RE w v4 l4 v' l' u' := by
  have hb : Below w.heap.size u u' := hk.toBelow h.o5.2.size (fun k hk2 e => by have := (h.o5.1.lt k e).1; omega)
  refine ⟨⟨own_kp h.o4.1 hk (fun k e ek => h.dj k e ek), h.o4.2.trans hb⟩, ⟨hown, h.o5.2.trans hb⟩, fun k e e5 => ?_⟩
  rcases hn with hn | hn
  · exact h.dj k e (by rw [← hn]; exact e5)
  · have h1 := hn k e5
    have h2 := (h.o4.1.lt k e).2
    omega
theorem kp_grown {u u' : World} {v : Value} (hg : u.grownBy u' v.ownBlock) : Kp (fun k => v.ownBlock = some k) u u' := (Kp.refl _ u).grown hg (fun _ hk _ => hk)
theorem nw_some {v v' : Value} {N : Nat} (h : v'.ownBlock = v.ownBlock ∨ v'.ownBlock = some N) : v'.ownBlock = v.ownBlock ∨ ∀ k, v'.ownBlock = some k → N ≤ k :=
  h.imp id fun h k e => by rw [h] at e; have := Option.some.inj e; omega
theorem end_take (ss : List ByteArray) {i : Nat} (h : i < ss.length) : (endV ss).take (i + 1) = (endV ss).take i ++ [((bg ss i + (tV ss i).size : Nat) : Int)] := by
  rw [take_step (by rw [end_len]; exact h), end_at ss h]

/-! ## A whole one stored and handed back -/
theorem store40 {ops : Array Oper} {rest : List Oper} {op : Oper} {a : Act} {Q : Exit → Act → World → Prop} (F : FQ) (E : Option Addr) (n c b : Nat) (x y : Operand) (ho : op.op = .store 40 x y) (hw : Region.wanted op (yielded ops a.tmps) = true)
    (hx : a.eval x = .pointer (some ⟨b, 0, none⟩)) (hy : a.eval y = .agg #[.int .i64 (F.N : Int), .int .i64 F.Z, .slice F.wa F.wW F.wc, .int .i64 (F.R.n : Int), .slice F.R.a F.R.m F.R.c, .int .i64 (F.R.cn : Int), .int .i64 (F.R.cW : Int), .int .i64 (F.R.cL : Int), .slice F.R.a2 F.R.m2 F.R.c2, .int .i64 (F.S.n : Int), .int .i64 (F.S.W : Int), .int .i64 (F.S.L : Int), .slice F.S.a F.S.m F.S.c, .int .i64 (F.P.n : Int), .int .i64 (F.P.W : Int), .int .i64 (F.P.L : Int), .slice F.P.a F.P.m F.P.c, .slice E n c]) (ht : w.there b 0 18) (k : wpList Tryz.prog ops Q rest (a.put op.dst undef) (w.setCells b 0 [.int .i64 (F.N : Int), .int .i64 F.Z, .slice F.wa F.wW F.wc, .int .i64 (F.R.n : Int), .slice F.R.a F.R.m F.R.c, .int .i64 (F.R.cn : Int), .int .i64 (F.R.cW : Int), .int .i64 (F.R.cL : Int), .slice F.R.a2 F.R.m2 F.R.c2, .int .i64 (F.S.n : Int), .int .i64 (F.S.W : Int), .int .i64 (F.S.L : Int), .slice F.S.a F.S.m F.S.c, .int .i64 (F.P.n : Int), .int .i64 (F.P.W : Int), .int .i64 (F.P.L : Int), .slice F.P.a F.P.m F.P.c, .slice E n c])) : wpList Tryz.prog ops Q (op :: rest) a w :=
  wpList_step fun K hK => by
    rw [if_pos hw]
    exact wp_store_mid 40 x y ho b 0 #[.int .i64 (F.N : Int), .int .i64 F.Z, .slice F.wa F.wW F.wc, .int .i64 (F.R.n : Int), .slice F.R.a F.R.m F.R.c, .int .i64 (F.R.cn : Int), .int .i64 (F.R.cW : Int), .int .i64 (F.R.cL : Int), .slice F.R.a2 F.R.m2 F.R.c2, .int .i64 (F.S.n : Int), .int .i64 (F.S.W : Int), .int .i64 (F.S.L : Int), .slice F.S.a F.S.m F.S.c, .int .i64 (F.P.n : Int), .int .i64 (F.P.W : Int), .int .i64 (F.P.L : Int), .slice F.P.a F.P.m F.P.c, .slice E n c] hx hy ht (by kernel_rfl) (by kernel_rfl) (hK _ _ k)
theorem results_v2 {fn : Func} {p q : Tmp} {v : Value} {n : Nat} (h : fn.results = #[.cell p 40, .tmp q]) (tmps : Array Value) (hp : tmps.getD p undef = .pointer (some ⟨b, 0, none⟩)) (hq : tmps.getD q undef = v) (hb : w.rangeAt b 0 [.int .i64 (F.N : Int), .int .i64 F.Z, .slice F.wa F.wW F.wc, .int .i64 (F.R.n : Int), .slice F.R.a F.R.m F.R.c, .int .i64 (F.R.cn : Int), .int .i64 (F.R.cW : Int), .int .i64 (F.R.cL : Int), .slice F.R.a2 F.R.m2 F.R.c2, .int .i64 (F.S.n : Int), .int .i64 (F.S.W : Int), .int .i64 (F.S.L : Int), .slice F.S.a F.S.m F.S.c, .int .i64 (F.P.n : Int), .int .i64 (F.P.W : Int), .int .i64 (F.P.L : Int), .slice F.P.a F.P.m F.P.c, .slice E n c]) : (results fn tmps).run Tryz.prog w = .ok (.tuple #[.agg #[.int .i64 (F.N : Int), .int .i64 F.Z, .slice F.wa F.wW F.wc, .int .i64 (F.R.n : Int), .slice F.R.a F.R.m F.R.c, .int .i64 (F.R.cn : Int), .int .i64 (F.R.cW : Int), .int .i64 (F.R.cL : Int), .slice F.R.a2 F.R.m2 F.R.c2, .int .i64 (F.S.n : Int), .int .i64 (F.S.W : Int), .int .i64 (F.S.L : Int), .slice F.S.a F.S.m F.S.c, .int .i64 (F.P.n : Int), .int .i64 (F.P.W : Int), .int .i64 (F.P.L : Int), .slice F.P.a F.P.m F.P.c, .slice E n c], v]) w := by
  have hp' : tmps[p]?.getD undef = .pointer (some ⟨b, 0, none⟩) := by simpa using hp
  have hq' : tmps[q]?.getD undef = v := by simpa using hq
  have := run_loadVar_mid w b 0 40 _ _ hb Tryz.underlying40 rfl (by kernel_rfl)
  simp only [results, h]
  simp [hp', hq', asAddr, this]
theorem there18 (w : World) : (w.alloc (.cells #[.int .i64 0, .int .i64 0, .slice none 0 0, .int .i64 0, .slice none 0 0, .int .i64 0, .int .i64 0, .int .i64 0, .slice none 0 0, .int .i64 0, .int .i64 0, .int .i64 0, .slice none 0 0, .int .i64 0, .int .i64 0, .int .i64 0, .slice none 0 0, .slice none 0 0] 40)).there w.heap.size 0 18 := there_alloc w _ 40 18 rfl

end Go.Proofs.YtpnjccomngdblaaGreat
end

section
/- The contract of New. -/
set_option maxRecDepth 100000
namespace Go.Proofs.YtpnjccomngdblaaGreat
open Go.RowKit
open M
attribute [local go_sem ↓] Go.wp_at_zero Go.wp_at_succ

variable {w u w' : World} {b c : Nat} {F : FQ} {E : Option Addr} {ss : List ByteArray}
set_option maxHeartbeats 8000000 in
theorem vnew_ok (A : Option Addr) (n c : Nat) (ss : List ByteArray) (w : World) (hA : StrsAt w A ss) (hl : ss.length = n) (hB : bg ss n ≤ 1000) :
    Calls Tryz.prog 12 #[.slice A n c] w fun e u => ∃ F E c, e = .returned (.tuple #[.agg #[.int .i64 (F.N : Int), .int .i64 F.Z, .slice F.wa F.wW F.wc, .int .i64 (F.R.n : Int), .slice F.R.a F.R.m F.R.c, .int .i64 (F.R.cn : Int), .int .i64 (F.R.cW : Int), .int .i64 (F.R.cL : Int), .slice F.R.a2 F.R.m2 F.R.c2, .int .i64 (F.S.n : Int), .int .i64 (F.S.W : Int), .int .i64 (F.S.L : Int), .slice F.S.a F.S.m F.S.c, .int .i64 (F.P.n : Int), .int .i64 (F.P.W : Int), .int .i64 (F.P.L : Int), .slice F.P.a F.P.m F.P.c, .slice E ss.length c], .int .i64 0]) ∧ VI u F E ss ∧ Below w.heap.size w u := by
  have hlb := len_bg ss n
  have hn9 : n ≤ 1000 := by omega
  obtain ⟨w1, hw1⟩ : ∃ w1, w1 = w.alloc (.cells #[.int .i64 0, .int .i64 0, .slice none 0 0, .int .i64 0, .slice none 0 0, .int .i64 0, .int .i64 0, .int .i64 0, .slice none 0 0, .int .i64 0, .int .i64 0, .int .i64 0, .slice none 0 0, .int .i64 0, .int .i64 0, .int .i64 0, .slice none 0 0, .slice none 0 0] 40) := ⟨_, rfl⟩
  have hs1 : w1.heap.size = w.heap.size + 1 := by rw [hw1]; simp
  have b1 : Below w.heap.size w w1 := by rw [hw1]; exact al w _
  have th1 : w1.there w.heap.size 0 18 := by rw [hw1]; exact there18 w
  have ty1 : Typ w1 w.heap.size 40 := by rw [hw1]; exact ⟨_, _, heap_alloc_new w _⟩
  have hkp := kept_ok A n c ss w1 (hA.kept b1) hl (by omega)
  have HX := Lib.hid (And.intro hkp (And.intro (hA.kept b1) (And.intro hl hB)))
  have H1 := Lib.hid (And.intro b1 (And.intro th1 (And.intro ty1 hs1)))
  clear hkp hA b1 th1 ty1 hs1 hl hB hlb
  go_enter Tryz.func12, Tryz.ntmps12
  go_upto_region 1 with fail
  rw [← hw1]
  clear hw1
  obtain ⟨r, hr⟩ : ∃ r, w.heap.size = r := ⟨_, rfl⟩
  rw [hr] at H1
  simp only [hr]
  have HR := Lib.hid hr
  clear hr
  go_wp2_with fail
  (with_reducible refine HX.out.1.mono ?_)
  rintro e u ⟨rfl, rfl⟩
  obtain ⟨w2, rfl⟩ : ∃ w2, w2 = u := ⟨_, rfl⟩
  go_wp2
  go_loopw [4, 5, 7, 16] (fun v4 v5 _ v16 wr => ∃ i : Nat, i ≤ n ∧ v16 = .int .i64 (i : Int) ∧ RE w2 v4 (rowV (ss.take i)) v5 ((endV ss).take i) wr) (fun _ _ _ v16 _ => n - (intOf v16).toNat)
  case atStart => exact ⟨0, Nat.zero_le _, rfl, ⟨World.ownsRow_nil _ _ _ _, Below.refl _ _⟩, ⟨World.ownsRow_nil _ _ _ _, Below.refl _ _⟩, fun k e => by simp [Value.ownBlock] at e⟩
  case round =>
    obtain ⟨i, hin, rfl, hR⟩ := hrel
    by_cases hlt : i < n
    · obtain ⟨bb, off, hAe, hbl, hcs⟩ := str_all HX.out.2.1 (by rw [HX.out.2.2.1]; omega)
      have hc := hcs i (by rw [HX.out.2.2.1]; omega) wr hR.o4.2
      have hrt := rowV_take ss (i := i) (by rw [HX.out.2.2.1]; omega)
      have het := end_take ss (i := i) (by rw [HX.out.2.2.1]; omega)
      have hrl := row_take_len ss i (by rw [HX.out.2.2.1]; omega)
      have hbt := bg_lt ss (i := i) (j := n) hlt
      have hB := HX.out.2.2.2
      have hel : ((endV ss).take i).length = i := by rw [List.length_take, end_len, HX.out.2.2.1]; omega
      obtain ⟨s, hs⟩ : ∃ s, tV ss i = s := ⟨_, rfl⟩
      rw [hs] at hc hrt het hbt
      obtain ⟨R, hRe⟩ : ∃ R, rowV (ss.take i) = R := ⟨_, rfl⟩
      rw [hRe] at hR hrt hrl
      obtain ⟨Q, hQe⟩ : ∃ Q, (endV ss).take i = Q := ⟨_, rfl⟩
      rw [hQe] at hR het hel
      have hRs : (R ++ sy s).length = bg ss i + s.size := by rw [List.length_append, sy_len, hrl]
      obtain ⟨x, hx⟩ : ∃ x, bg ss i + s.size = x := ⟨_, rfl⟩
      rw [hx] at het hRs
      have hx9 : x ≤ 1000 := by omega
      have hwa := with_any u4 R s w2.heap.size wr hR.o4.1 hR.o4.2.size (by omega) (by omega)
      have HI := Lib.hid (And.intro hR (And.intro hrt (And.intro het (And.intro hRs (And.intro hel hwa)))))
      have q1 : (i : Int) < (n : Int) := by omega
      have q2 : (0 : Int) ≤ (i : Int) := by omega
      subst hAe
      clear hcs hR hrt het hrl hbt hB hel hs hRe hQe hRs hx hwa
      go_wp2_with fail
      (with_reducible refine HI.out.2.2.2.2.2.mono ?_)
      rintro e w3 ⟨v4, rfl, hG⟩
      have hR3 := HI.out.1.step4 hG.own hG.kp hG.nw
      obtain ⟨A4, c4, rfl, -, -, -, -, -⟩ := nums_of_own hG.own
      have H3 := Lib.hid hR3
      clear hG hR3 hc
      rw [HI.out.2.2.2.1] at H3 ⊢
      have hs3 := H3.out.o4.2.size
      go_wp2_with (first | (at_builtin; refine wpList_append_nums rfl (.tmp 23) (.tmp 26) rfl w2.heap.size _ _ _ rfl (H3.out.kept (al w3 (.cells #[.int .i64 (x : Int)] 3))).o5.1 (some ⟨_, 0, none⟩) 1 1 [(x : Int)] rfl rfl ?c1 (by simp) ?c2 ?c3 ?_))
      case c1 => exact nums_one _ _
      case c2 => rw [HI.out.2.2.2.2.1]; omega
      case c3 => first | omega | (simp; omega)
      intro v5 w5 hown hgrow hnb
      have hR5 := (H3.out.kept (al w3 (.cells #[.int .i64 (x : Int)] 3))).step5 (l' := Q ++ [(x : Int)]) (by simpa using hown) (kp_grown hgrow) (nw_some (N := (w3.alloc (.cells #[.int .i64 (x : Int)] 3)).heap.size) (by simpa using hnb))
      obtain ⟨A5, c5, rfl, -, -, -, -, -⟩ := nums_of_own hR5.o5.1
      have H5 := Lib.hid hR5
      have hs5 := H5.out.o4.2.size
      have hQl : (Q ++ [(x : Int)]).length = i + 1 := by rw [List.length_append, HI.out.2.2.2.2.1]; rfl
      rw [hQl] at H5 ⊢
      clear hown hgrow hnb hR5 hs3
      go_wp2_with (first | (at_builtin; refine wpList_append_nums rfl (.tmp 28) (.tmp 29) rfl w2.heap.size _ _ _ rfl (H5.out.kept (al w5 (.cells #[.int .i64 0] 3))).o4.1 (some ⟨_, 0, none⟩) 1 1 [(0 : Int)] rfl rfl ?d1 (by simp) ?d2 ?d3 ?_))
      case d1 => exact nums_one _ _
      case d2 => rw [HI.out.2.2.2.1]; omega
      case d3 => first | omega | (simp; omega)
      intro v9 w9 hown hgrow hnb
      have hR9 := (H5.out.kept (al w5 (.cells #[.int .i64 0] 3))).step4 (l' := (R ++ sy s) ++ [(0 : Int)]) (by simpa [Nat.add_assoc] using hown) (kp_grown hgrow) (nw_some (N := (w5.alloc (.cells #[.int .i64 0] 3)).heap.size) (by simpa using hnb))
      rw [List.append_assoc, ← HI.out.2.1, ← HI.out.2.2.1] at hR9
      have H9 := Lib.hid hR9
      clear hown hgrow hnb hR9 hs5
      go_wp2
      go_roundw
      case rel => exact ⟨i + 1, by omega, by go_num, H9.out⟩
      case measure => simp [intOf]; omega
    · obtain rfl : i = n := by omega
      rw [← HX.out.2.2.1, List.take_length, ← end_len ss, List.take_length] at hR
      obtain ⟨P, pc, rfl, hP, -, -, -, -⟩ := nums_of_own hR.o4.1
      obtain ⟨E, ec, rfl, hE, -, -, -, -⟩ := nums_of_own hR.o5.1
      have hrl : (rowV ss).length ≤ 1000 := by rw [row_len, HX.out.2.2.1]; exact HX.out.2.2.2
      have hfn : Calls Tryz.prog 32 #[.slice P (rowV ss).length pc, .int .i64 257] wr _ := fnew_any marked_said P (rowV ss).length pc (rowV ss) 257 wr hP rfl hrl (by omega) (by omega) (row_in ss)
      have HF := Lib.hid (And.intro hfn (And.intro hR hE))
      have q1 : ¬ (i : Int) < (i : Int) := by omega
      clear hR hP hE hfn
      go_wp2_with fail
      (with_reducible refine HF.out.1.mono ?_)
      rintro e u3 ⟨F, rfl, hF, hb3, hfr⟩
      have b4 := al u3 (.cells #[.int .i64 (F.N : Int), .int .i64 F.Z, .slice F.wa F.wW F.wc, .int .i64 (F.R.n : Int), .slice F.R.a F.R.m F.R.c, .int .i64 (F.R.cn : Int), .int .i64 (F.R.cW : Int), .int .i64 (F.R.cL : Int), .slice F.R.a2 F.R.m2 F.R.c2, .int .i64 (F.S.n : Int), .int .i64 (F.S.W : Int), .int .i64 (F.S.L : Int), .slice F.S.a F.S.m F.S.c, .int .i64 (F.P.n : Int), .int .i64 (F.P.W : Int), .int .i64 (F.P.L : Int), .slice F.P.a F.P.m F.P.c] 37)
      have hm4 := MBx.new u3 F
      have hR4 := (HF.out.2.1.kept hb3).kept b4
      have hE4 := (HF.out.2.2.kept hb3).kept b4
      have hF4 := hF.kept b4
      go_upto_region 12 with fail
      obtain ⟨u4, hu4⟩ : ∃ u4, u3.alloc (.cells #[.int .i64 (F.N : Int), .int .i64 F.Z, .slice F.wa F.wW F.wc, .int .i64 (F.R.n : Int), .slice F.R.a F.R.m F.R.c, .int .i64 (F.R.cn : Int), .int .i64 (F.R.cW : Int), .int .i64 (F.R.cL : Int), .slice F.R.a2 F.R.m2 F.R.c2, .int .i64 (F.S.n : Int), .int .i64 (F.S.W : Int), .int .i64 (F.S.L : Int), .slice F.S.a F.S.m F.S.c, .int .i64 (F.P.n : Int), .int .i64 (F.P.W : Int), .int .i64 (F.P.L : Int), .slice F.P.a F.P.m F.P.c] 37) = u4 := ⟨_, rfl⟩
      rw [hu4] at hm4 hR4 hE4 hF4
      rw [hu4]
      clear hu4 b4
      have hth := there_kp H1.out.2.1 H1.out.2.2.1.lt (Below.kp hR4.o4.2) (fun h => h)
      have hty := H1.out.2.2.1.kept hR4.o4.2
      have H4 := Lib.hid (And.intro hm4 (And.intro hR4 (And.intro hE4 (And.intro hF4 (And.intro hth (And.intro hty (And.intro hfr hb3.size)))))))
      clear hm4 hR4 hE4 hF4 hth hty hfr hF hb3
      go_wp2_with (first | (refine load36 H4.out.1 _ (by with_reducible rfl) rfl rfl ?_) | (refine store40 F E (endV ss).length ec r _ _ (by with_reducible rfl) rfl rfl rfl H4.out.2.2.2.2.1 ?_))
      obtain ⟨hm4, hR4, hE4, hF4, hth, hty, hfr, hs43⟩ := H4.out
      have hrange := World.rangeAt_setCells_same u4 r 0 [.int .i64 (F.N : Int), .int .i64 F.Z, .slice F.wa F.wW F.wc, .int .i64 (F.R.n : Int), .slice F.R.a F.R.m F.R.c, .int .i64 (F.R.cn : Int), .int .i64 (F.R.cW : Int), .int .i64 (F.R.cL : Int), .slice F.R.a2 F.R.m2 F.R.c2, .int .i64 (F.S.n : Int), .int .i64 (F.S.W : Int), .int .i64 (F.S.L : Int), .slice F.S.a F.S.m F.S.c, .int .i64 (F.P.n : Int), .int .i64 (F.P.W : Int), .int .i64 (F.P.L : Int), .slice F.P.a F.P.m F.P.c, .slice E (endV ss).length ec] hth
      have hk := setCells_kp r [.int .i64 (F.N : Int), .int .i64 F.Z, .slice F.wa F.wW F.wc, .int .i64 (F.R.n : Int), .slice F.R.a F.R.m F.R.c, .int .i64 (F.R.cn : Int), .int .i64 (F.R.cW : Int), .int .i64 (F.R.cL : Int), .slice F.R.a2 F.R.m2 F.R.c2, .int .i64 (F.S.n : Int), .int .i64 (F.S.W : Int), .int .i64 (F.S.L : Int), .slice F.S.a F.S.m F.S.c, .int .i64 (F.P.n : Int), .int .i64 (F.P.W : Int), .int .i64 (F.P.L : Int), .slice F.P.a F.P.m F.P.c, .slice E (endV ss).length ec] 0 u4
      have hs2 := HF.out.2.1.o4.2.size
      have hr2 := H1.out.2.2.2
      have hF7 := hF4.typs hk (fun b e => ⟨40, by decide, by rw [e]; exact hty⟩) (fun _ p e ek => by have := hfr p e; omega)
      have hE7 := NumsAt.kp hE4 hk (fun b o e ek => by have := (hR4.o5.1.lt b (by rw [e]; rfl)).1; omega)
      have hb8 : Below w.heap.size w (u4.setCells r 0 [.int .i64 (F.N : Int), .int .i64 F.Z, .slice F.wa F.wW F.wc, .int .i64 (F.R.n : Int), .slice F.R.a F.R.m F.R.c, .int .i64 (F.R.cn : Int), .int .i64 (F.R.cW : Int), .int .i64 (F.R.cL : Int), .slice F.R.a2 F.R.m2 F.R.c2, .int .i64 (F.S.n : Int), .int .i64 (F.S.W : Int), .int .i64 (F.S.L : Int), .slice F.S.a F.S.m F.S.c, .int .i64 (F.P.n : Int), .int .i64 (F.P.W : Int), .int .i64 (F.P.L : Int), .slice F.P.a F.P.m F.P.c, .slice E (endV ss).length ec]) := Below.setCells' (by rw [HR.out]; exact Nat.le_refl _) _ 0 (by rw [HR.out]; exact H1.out.1.trans (hR4.o4.2.mono (by omega)))
      generalize u4.setCells r 0 [.int .i64 (F.N : Int), .int .i64 F.Z, .slice F.wa F.wW F.wc, .int .i64 (F.R.n : Int), .slice F.R.a F.R.m F.R.c, .int .i64 (F.R.cn : Int), .int .i64 (F.R.cW : Int), .int .i64 (F.R.cL : Int), .slice F.R.a2 F.R.m2 F.R.c2, .int .i64 (F.S.n : Int), .int .i64 (F.S.W : Int), .int .i64 (F.S.L : Int), .slice F.S.a F.S.m F.S.c, .int .i64 (F.P.n : Int), .int .i64 (F.P.W : Int), .int .i64 (F.P.L : Int), .slice F.P.a F.P.m F.P.c, .slice E (endV ss).length ec] = u8 at *
      refine bodyPost_ret (v := .tuple #[.agg #[.int .i64 (F.N : Int), .int .i64 F.Z, .slice F.wa F.wW F.wc, .int .i64 (F.R.n : Int), .slice F.R.a F.R.m F.R.c, .int .i64 (F.R.cn : Int), .int .i64 (F.R.cW : Int), .int .i64 (F.R.cL : Int), .slice F.R.a2 F.R.m2 F.R.c2, .int .i64 (F.S.n : Int), .int .i64 (F.S.W : Int), .int .i64 (F.S.L : Int), .slice F.S.a F.S.m F.S.c, .int .i64 (F.P.n : Int), .int .i64 (F.P.W : Int), .int .i64 (F.P.L : Int), .slice F.P.a F.P.m F.P.c, .slice E (endV ss).length ec], .int .i64 0]) (results_v2 (b := r) (F := F) Tryz.results12 _ ?hp ?hq hrange) ?hd ?_
      case hp => rfl
      case hq => rfl
      case hd => rfl
      exact ⟨F, E, ec, by rw [end_len], ⟨hF7, hE7⟩, hb8⟩

end Go.Proofs.YtpnjccomngdblaaGreat
end

section
/- The calls on a boxed one; the chapter's examples. -/
set_option maxRecDepth 100000
namespace Go.Proofs.YtpnjccomngdblaaGreat
open Go.RowKit
open M
attribute [local go_sem ↓] Go.wp_at_zero Go.wp_at_succ

variable {w u w' : World} {b c : Nat} {F : FQ} {E : Option Addr} {ss : List ByteArray}
theorem VX.ids (h : VX w b F E c ss u) (p : ByteArray) (hp : p.size ≤ 100000) : Calls Tryz.prog 26 #[.agg #[.int .i64 (F.N : Int), .int .i64 F.Z, .slice F.wa F.wW F.wc, .int .i64 (F.R.n : Int), .slice F.R.a F.R.m F.R.c, .int .i64 (F.R.cn : Int), .int .i64 (F.R.cW : Int), .int .i64 (F.R.cL : Int), .slice F.R.a2 F.R.m2 F.R.c2, .int .i64 (F.S.n : Int), .int .i64 (F.S.W : Int), .int .i64 (F.S.L : Int), .slice F.S.a F.S.m F.S.c, .int .i64 (F.P.n : Int), .int .i64 (F.P.W : Int), .int .i64 (F.P.L : Int), .slice F.P.a F.P.m F.P.c, .slice E ss.length c], .string p] u fun e u' => ∃ A ac, e = .returned (.slice A (idsV ss p).length ac) ∧ NumsAt .i64 u' A (idsV ss p) ∧ Below u.heap.size u u' ∧ VX w b F E c ss u' := by
  refine (ids_v p h.vi hp).mono ?_
  rintro e u' ⟨v, rfl, hI⟩
  obtain ⟨A, ac, rfl, hN, -, -, -, -⟩ := nums_of_own hI.1
  exact ⟨A, ac, rfl, hN, hI.2, h.kept hI.2⟩
theorem VX.equal (h : VX w b F E c ss u) (p : ByteArray) (hp : p.size ≤ 100000) : Calls Tryz.prog 28 #[.agg #[.int .i64 (F.N : Int), .int .i64 F.Z, .slice F.wa F.wW F.wc, .int .i64 (F.R.n : Int), .slice F.R.a F.R.m F.R.c, .int .i64 (F.R.cn : Int), .int .i64 (F.R.cW : Int), .int .i64 (F.R.cL : Int), .slice F.R.a2 F.R.m2 F.R.c2, .int .i64 (F.S.n : Int), .int .i64 (F.S.W : Int), .int .i64 (F.S.L : Int), .slice F.S.a F.S.m F.S.c, .int .i64 (F.P.n : Int), .int .i64 (F.P.W : Int), .int .i64 (F.P.L : Int), .slice F.P.a F.P.m F.P.c, .slice E ss.length c], .string p] u fun e u' => ∃ A ac, e = .returned (.slice A (eqV ss p).length ac) ∧ NumsAt .i64 u' A (eqV ss p) ∧ Below u.heap.size u u' ∧ VX w b F E c ss u' := by
  refine (equal_v p h.vi hp).mono ?_
  rintro e u' ⟨v, rfl, hI⟩
  obtain ⟨A, ac, rfl, hN, -, -, -, -⟩ := nums_of_own hI.1
  exact ⟨A, ac, rfl, hN, hI.2, h.kept hI.2⟩
theorem VX.count (h : VX w b F E c ss u) (p : ByteArray) (hp : p.size ≤ 1000000) : Calls Tryz.prog 30 #[.agg #[.int .i64 (F.N : Int), .int .i64 F.Z, .slice F.wa F.wW F.wc, .int .i64 (F.R.n : Int), .slice F.R.a F.R.m F.R.c, .int .i64 (F.R.cn : Int), .int .i64 (F.R.cW : Int), .int .i64 (F.R.cL : Int), .slice F.R.a2 F.R.m2 F.R.c2, .int .i64 (F.S.n : Int), .int .i64 (F.S.W : Int), .int .i64 (F.S.L : Int), .slice F.S.a F.S.m F.S.c, .int .i64 (F.P.n : Int), .int .i64 (F.P.W : Int), .int .i64 (F.P.L : Int), .slice F.P.a F.P.m F.P.c, .slice E ss.length c], .string p] u fun e u' => e = .returned (.int .i64 (cnV ss p ss.length : Nat)) ∧ Below u.heap.size u u' ∧ VX w b F E c ss u' :=
  (count_v p h.vi hp).mono fun _ _ hh => ⟨hh.1, hh.2, h.kept hh.2⟩
theorem VX.get (h : VX w b F E c ss u) (i : Nat) (hi : i < ss.length) : Calls Tryz.prog 13 #[.agg #[.int .i64 (F.N : Int), .int .i64 F.Z, .slice F.wa F.wW F.wc, .int .i64 (F.R.n : Int), .slice F.R.a F.R.m F.R.c, .int .i64 (F.R.cn : Int), .int .i64 (F.R.cW : Int), .int .i64 (F.R.cL : Int), .slice F.R.a2 F.R.m2 F.R.c2, .int .i64 (F.S.n : Int), .int .i64 (F.S.W : Int), .int .i64 (F.S.L : Int), .slice F.S.a F.S.m F.S.c, .int .i64 (F.P.n : Int), .int .i64 (F.P.W : Int), .int .i64 (F.P.L : Int), .slice F.P.a F.P.m F.P.c, .slice E ss.length c], .int .i64 (i : Int)] u fun e u' => e = .returned (.tuple #[.string (tV ss i), .int .i64 0]) ∧ Below u.heap.size u u' ∧ VX w b F E c ss u' :=
  (get_ok i h.vi hi).mono fun _ _ hh => ⟨hh.1, hh.2, h.kept hh.2⟩
theorem VX.getNo (h : VX w b F E c ss u) (i : Int) (hi : i < 0 ∨ (ss.length : Int) ≤ i) : Calls Tryz.prog 13 #[.agg #[.int .i64 (F.N : Int), .int .i64 F.Z, .slice F.wa F.wW F.wc, .int .i64 (F.R.n : Int), .slice F.R.a F.R.m F.R.c, .int .i64 (F.R.cn : Int), .int .i64 (F.R.cW : Int), .int .i64 (F.R.cL : Int), .slice F.R.a2 F.R.m2 F.R.c2, .int .i64 (F.S.n : Int), .int .i64 (F.S.W : Int), .int .i64 (F.S.L : Int), .slice F.S.a F.S.m F.S.c, .int .i64 (F.P.n : Int), .int .i64 (F.P.W : Int), .int .i64 (F.P.L : Int), .slice F.P.a F.P.m F.P.c, .slice E ss.length c], .int .i64 i] u fun e u' => e = .returned (.tuple #[.string ⟨#[]⟩, .int .i64 13]) ∧ Below u.heap.size u u' ∧ VX w b F E c ss u' :=
  (get_no i h.vi hi).mono fun _ _ hh => ⟨hh.1, hh.2, h.kept hh.2⟩
theorem VX.len (h : VX w b F E c ss u) : Calls Tryz.prog 22 #[.agg #[.int .i64 (F.N : Int), .int .i64 F.Z, .slice F.wa F.wW F.wc, .int .i64 (F.R.n : Int), .slice F.R.a F.R.m F.R.c, .int .i64 (F.R.cn : Int), .int .i64 (F.R.cW : Int), .int .i64 (F.R.cL : Int), .slice F.R.a2 F.R.m2 F.R.c2, .int .i64 (F.S.n : Int), .int .i64 (F.S.W : Int), .int .i64 (F.S.L : Int), .slice F.S.a F.S.m F.S.c, .int .i64 (F.P.n : Int), .int .i64 (F.P.W : Int), .int .i64 (F.P.L : Int), .slice F.P.a F.P.m F.P.c, .slice E ss.length c]] u fun e u' => e = .returned (.int .i64 (ss.length : Int)) ∧ Below u.heap.size u u' ∧ VX w b F E c ss u' :=
  (vlen_any F E ss.length c u).mono fun _ _ hh => ⟨hh.1, hh.2, h.kept hh.2⟩

def A3 : List ByteArray := [⟨#[97, 98]⟩, ⟨#[98]⟩, ⟨#[]⟩]
theorem a3_len : A3.length = 3 := rfl
theorem a3_ids : idsV A3 ⟨#[98]⟩ = [0, 1] := by decide
theorem a3_eq1 : eqV A3 ⟨#[98]⟩ = [1] := by decide
theorem a3_eq0 : eqV A3 ⟨#[]⟩ = [2] := by decide
theorem a3_cn1 : cnV A3 ⟨#[98]⟩ 3 = 2 := by decide
theorem a3_cn0 : cnV A3 ⟨#[]⟩ 3 = 6 := by decide
theorem a3_at (w : World) : StrsAt (w.alloc (.cells #[.string ⟨#[97, 98]⟩, .string ⟨#[98]⟩, .string ⟨#[]⟩] 9)) (some ⟨w.heap.size, 0, none⟩) A3 := by
  refine .inr ⟨w.heap.size, 0, rfl, by simp, fun j hj => ?_⟩
  rw [a3_len] at hj
  match j, hj with
  | 0, _ => simp [tV, A3]
  | 1, _ => simp [tV, A3]
  | 2, _ => simp [tV, A3]
  | j + 3, hj => omega
theorem two_nums (w : World) (x y : Int) : NumsAt .i64 (w.alloc (.cells #[.int .i64 x, .int .i64 y] 3)) (some ⟨w.heap.size, 0, none⟩) [x, y] := by
  refine .inr ⟨w.heap.size, 0, rfl, by simp, fun j hj => ?_⟩
  simp only [List.length_cons, List.length_nil] at hj
  match j, hj with
  | 0, _ => simp
  | 1, _ => simp
  | j + 2, hj => omega

end Go.Proofs.YtpnjccomngdblaaGreat
end

section
/- What the laws of layer 10 share. -/
set_option maxRecDepth 100000
namespace Go.Proofs.YtpnjccomngdblaaGreat
open Go.RowKit
open M
attribute [local go_sem ↓] Go.wp_at_zero Go.wp_at_succ

variable {w u w' : World} {b c : Nat} {F : FQ} {E : Option Addr} {ss : List ByteArray}
theorem bg_few (ss : List ByteArray) (h : ∀ s ∈ ss, s.size ≤ 20) : ∀ i, i ≤ ss.length → bg ss i ≤ 21 * i := by
  intro i
  induction i with
  | zero => intro _; exact Nat.le_refl _
  | succ i ih =>
    intro hi
    have := ih (by omega)
    have := h _ (tV_mem (ss := ss) (i := i) (by omega))
    rw [bg_up]; omega
/-- What a law on texts holds: the texts, and the one made of them. -/
structure LQV (w : World) (b : Nat) (F : FQ) (E : Option Addr) (c : Nat) (B : Option Addr) (ss : List ByteArray) (u : World) : Prop where
  vx : VX w b F E c ss u
  st : StrsAt u B ss
theorem LQV.kept {u' : World} {B : Option Addr} (h : LQV w b F E c B ss u) (hb : Below u.heap.size u u') : LQV w b F E c B ss u' := ⟨h.vx.kept hb, h.st.kept hb⟩
/-- few, and what it makes. -/
theorem few_all (A : Option Addr) (n c : Nat) (xs : List ByteArray) (w : World) (hA : StrsAt w A xs) (hl : xs.length = n) :
    Calls Tryz.prog 11 #[.slice A n c] w fun e u => ∃ B m cp ss, e = .returned (.slice B m cp) ∧ ss.length = m ∧ m ≤ 10 ∧ StrsAt u B ss ∧ (∀ s ∈ ss, s.size ≤ 20) ∧ bg ss m ≤ 210 ∧ (B = none → m = 0 ∧ cp = 0) ∧ Below w.heap.size w u := by
  refine (few_any A n c xs w hA hl).mono ?_
  rintro e u ⟨v, rfl, hI⟩
  obtain ⟨B, cp, rfl, hB, -, hle, -, hno⟩ := strs_of_own hI.1
  have hlen := fewL_len xs (i := min n 10) (by omega)
  have hsz := fewL_size xs (min n 10)
  have hbg := bg_few _ hsz (fewL xs (min n 10)).length (Nat.le_refl _)
  exact ⟨B, _, cp, fewL xs (min n 10), rfl, rfl, by omega, hB, hsz, by omega, fun e => by have := hno e; omega, hI.2⟩
/-! ## A new one in its box -/
theorem below_stored (u : World) (F : FQ) (E : Option Addr) (n c : Nat) : Below u.heap.size u ((u.alloc (.cells #[.int .i64 0, .int .i64 0, .slice none 0 0, .int .i64 0, .slice none 0 0, .int .i64 0, .int .i64 0, .int .i64 0, .slice none 0 0, .int .i64 0, .int .i64 0, .int .i64 0, .slice none 0 0, .int .i64 0, .int .i64 0, .int .i64 0, .slice none 0 0, .slice none 0 0] 40)).setCells u.heap.size 0 [.int .i64 (F.N : Int), .int .i64 F.Z, .slice F.wa F.wW F.wc, .int .i64 (F.R.n : Int), .slice F.R.a F.R.m F.R.c, .int .i64 (F.R.cn : Int), .int .i64 (F.R.cW : Int), .int .i64 (F.R.cL : Int), .slice F.R.a2 F.R.m2 F.R.c2, .int .i64 (F.S.n : Int), .int .i64 (F.S.W : Int), .int .i64 (F.S.L : Int), .slice F.S.a F.S.m F.S.c, .int .i64 (F.P.n : Int), .int .i64 (F.P.W : Int), .int .i64 (F.P.L : Int), .slice F.P.a F.P.m F.P.c, .slice E n c]) :=
  Below.setCells' (Nat.le_refl _) _ 0 (al u _)
theorem VX.stored (h : VI u F E ss) (hb : Below w.heap.size w u) : VX w u.heap.size F E c ss ((u.alloc (.cells #[.int .i64 0, .int .i64 0, .slice none 0 0, .int .i64 0, .slice none 0 0, .int .i64 0, .int .i64 0, .int .i64 0, .slice none 0 0, .int .i64 0, .int .i64 0, .int .i64 0, .slice none 0 0, .int .i64 0, .int .i64 0, .int .i64 0, .slice none 0 0, .slice none 0 0] 40)).setCells u.heap.size 0 [.int .i64 (F.N : Int), .int .i64 F.Z, .slice F.wa F.wW F.wc, .int .i64 (F.R.n : Int), .slice F.R.a F.R.m F.R.c, .int .i64 (F.R.cn : Int), .int .i64 (F.R.cW : Int), .int .i64 (F.R.cL : Int), .slice F.R.a2 F.R.m2 F.R.c2, .int .i64 (F.S.n : Int), .int .i64 (F.S.W : Int), .int .i64 (F.S.L : Int), .slice F.S.a F.S.m F.S.c, .int .i64 (F.P.n : Int), .int .i64 (F.P.W : Int), .int .i64 (F.P.L : Int), .slice F.P.a F.P.m F.P.c, .slice E ss.length c]) := by
  have hr := World.rangeAt_setCells_same (u.alloc (.cells #[.int .i64 0, .int .i64 0, .slice none 0 0, .int .i64 0, .slice none 0 0, .int .i64 0, .int .i64 0, .int .i64 0, .slice none 0 0, .int .i64 0, .int .i64 0, .int .i64 0, .slice none 0 0, .int .i64 0, .int .i64 0, .int .i64 0, .slice none 0 0, .slice none 0 0] 40)) u.heap.size 0 [.int .i64 (F.N : Int), .int .i64 F.Z, .slice F.wa F.wW F.wc, .int .i64 (F.R.n : Int), .slice F.R.a F.R.m F.R.c, .int .i64 (F.R.cn : Int), .int .i64 (F.R.cW : Int), .int .i64 (F.R.cL : Int), .slice F.R.a2 F.R.m2 F.R.c2, .int .i64 (F.S.n : Int), .int .i64 (F.S.W : Int), .int .i64 (F.S.L : Int), .slice F.S.a F.S.m F.S.c, .int .i64 (F.P.n : Int), .int .i64 (F.P.W : Int), .int .i64 (F.P.L : Int), .slice F.P.a F.P.m F.P.c, .slice E ss.length c] (there18 u)
  have hk := below_stored u F E ss.length c
  have g : ∀ j v, [.int .i64 (F.N : Int), .int .i64 F.Z, .slice F.wa F.wW F.wc, .int .i64 (F.R.n : Int), .slice F.R.a F.R.m F.R.c, .int .i64 (F.R.cn : Int), .int .i64 (F.R.cW : Int), .int .i64 (F.R.cL : Int), .slice F.R.a2 F.R.m2 F.R.c2, .int .i64 (F.S.n : Int), .int .i64 (F.S.W : Int), .int .i64 (F.S.L : Int), .slice F.S.a F.S.m F.S.c, .int .i64 (F.P.n : Int), .int .i64 (F.P.W : Int), .int .i64 (F.P.L : Int), .slice F.P.a F.P.m F.P.c, .slice E ss.length c][j]? = some v → ((u.alloc (.cells #[.int .i64 0, .int .i64 0, .slice none 0 0, .int .i64 0, .slice none 0 0, .int .i64 0, .int .i64 0, .int .i64 0, .slice none 0 0, .int .i64 0, .int .i64 0, .int .i64 0, .slice none 0 0, .int .i64 0, .int .i64 0, .int .i64 0, .slice none 0 0, .slice none 0 0] 40)).setCells u.heap.size 0 [.int .i64 (F.N : Int), .int .i64 F.Z, .slice F.wa F.wW F.wc, .int .i64 (F.R.n : Int), .slice F.R.a F.R.m F.R.c, .int .i64 (F.R.cn : Int), .int .i64 (F.R.cW : Int), .int .i64 (F.R.cL : Int), .slice F.R.a2 F.R.m2 F.R.c2, .int .i64 (F.S.n : Int), .int .i64 (F.S.W : Int), .int .i64 (F.S.L : Int), .slice F.S.a F.S.m F.S.c, .int .i64 (F.P.n : Int), .int .i64 (F.P.W : Int), .int .i64 (F.P.L : Int), .slice F.P.a F.P.m F.P.c, .slice E ss.length c]).cell? ⟨u.heap.size, j, none⟩ = some v := fun j v hv => by have := hr j v hv; rwa [Nat.zero_add] at this
  exact ⟨⟨g 0 _ rfl, g 1 _ rfl, g 2 _ rfl, g 3 _ rfl, g 4 _ rfl, g 5 _ rfl, g 6 _ rfl, g 7 _ rfl, g 8 _ rfl, g 9 _ rfl, g 10 _ rfl, g 11 _ rfl, g 12 _ rfl, g 13 _ rfl, g 14 _ rfl, g 15 _ rfl, g 16 _ rfl⟩, g 17 _ rfl, h.kept hk, hb.trans (hk.mono hb.size)⟩
theorem LQV.stored {B : Option Addr} (h : VI u F E ss) (hB : StrsAt u B ss) (hb : Below w.heap.size w u) : LQV w u.heap.size F E c B ss ((u.alloc (.cells #[.int .i64 0, .int .i64 0, .slice none 0 0, .int .i64 0, .slice none 0 0, .int .i64 0, .int .i64 0, .int .i64 0, .slice none 0 0, .int .i64 0, .int .i64 0, .int .i64 0, .slice none 0 0, .int .i64 0, .int .i64 0, .int .i64 0, .slice none 0 0, .slice none 0 0] 40)).setCells u.heap.size 0 [.int .i64 (F.N : Int), .int .i64 F.Z, .slice F.wa F.wW F.wc, .int .i64 (F.R.n : Int), .slice F.R.a F.R.m F.R.c, .int .i64 (F.R.cn : Int), .int .i64 (F.R.cW : Int), .int .i64 (F.R.cL : Int), .slice F.R.a2 F.R.m2 F.R.c2, .int .i64 (F.S.n : Int), .int .i64 (F.S.W : Int), .int .i64 (F.S.L : Int), .slice F.S.a F.S.m F.S.c, .int .i64 (F.P.n : Int), .int .i64 (F.P.W : Int), .int .i64 (F.P.L : Int), .slice F.P.a F.P.m F.P.c, .slice E ss.length c]) :=
  ⟨VX.stored h hb, hB.kept (below_stored u F E ss.length c)⟩
theorem same_vx (h : VX w b F E c ss u) (A B : Option Addr) (n c1 c2 : Nat) (l : List Int) (hA : NumsAt .i64 u A l) (hB : NumsAt .i64 u B l) (hl : l.length = n) (hn : n ≤ 1000000) : Calls Tryz.prog 18 #[.slice A n c1, .slice B n c2] u fun e u' => e = .returned (.bool true) ∧ VX w b F E c ss u' :=
  (rsame_any A B n n c1 c2 l l u hA hB hl hl (by omega)).mono fun _ _ hh => ⟨by rw [hh.1]; simp, h.kept hh.2⟩

end Go.Proofs.YtpnjccomngdblaaGreat
end

section
/- The chapter's examples: the contract of awake. -/
set_option maxRecDepth 100000
namespace Go.Proofs.YtpnjccomngdblaaGreat
open Go.RowKit
open M
attribute [local go_sem ↓] Go.wp_at_zero Go.wp_at_succ

variable {w u w' : World} {b c : Nat} {F : FQ} {E : Option Addr} {ss : List ByteArray}
/-- What the example tells. -/
structure AWV (w : World) (b : Nat) (F : FQ) (E : Option Addr) (c : Nat) : Prop where
  get : ∀ u, VX w b F E c A3 u → Calls Tryz.prog 13 #[.agg #[.int .i64 (F.N : Int), .int .i64 F.Z, .slice F.wa F.wW F.wc, .int .i64 (F.R.n : Int), .slice F.R.a F.R.m F.R.c, .int .i64 (F.R.cn : Int), .int .i64 (F.R.cW : Int), .int .i64 (F.R.cL : Int), .slice F.R.a2 F.R.m2 F.R.c2, .int .i64 (F.S.n : Int), .int .i64 (F.S.W : Int), .int .i64 (F.S.L : Int), .slice F.S.a F.S.m F.S.c, .int .i64 (F.P.n : Int), .int .i64 (F.P.W : Int), .int .i64 (F.P.L : Int), .slice F.P.a F.P.m F.P.c, .slice E A3.length c], .int .i64 0] u fun e u' => e = .returned (.tuple #[.string ⟨#[97, 98]⟩, .int .i64 0]) ∧ VX w b F E c A3 u'
  ids : ∀ u, VX w b F E c A3 u → Calls Tryz.prog 26 #[.agg #[.int .i64 (F.N : Int), .int .i64 F.Z, .slice F.wa F.wW F.wc, .int .i64 (F.R.n : Int), .slice F.R.a F.R.m F.R.c, .int .i64 (F.R.cn : Int), .int .i64 (F.R.cW : Int), .int .i64 (F.R.cL : Int), .slice F.R.a2 F.R.m2 F.R.c2, .int .i64 (F.S.n : Int), .int .i64 (F.S.W : Int), .int .i64 (F.S.L : Int), .slice F.S.a F.S.m F.S.c, .int .i64 (F.P.n : Int), .int .i64 (F.P.W : Int), .int .i64 (F.P.L : Int), .slice F.P.a F.P.m F.P.c, .slice E A3.length c], .string ⟨#[98]⟩] u fun e u' => ∃ A ac, e = .returned (.slice A 2 ac) ∧ NumsAt .i64 u' A [0, 1] ∧ VX w b F E c A3 u'
  eq1 : ∀ u, VX w b F E c A3 u → Calls Tryz.prog 28 #[.agg #[.int .i64 (F.N : Int), .int .i64 F.Z, .slice F.wa F.wW F.wc, .int .i64 (F.R.n : Int), .slice F.R.a F.R.m F.R.c, .int .i64 (F.R.cn : Int), .int .i64 (F.R.cW : Int), .int .i64 (F.R.cL : Int), .slice F.R.a2 F.R.m2 F.R.c2, .int .i64 (F.S.n : Int), .int .i64 (F.S.W : Int), .int .i64 (F.S.L : Int), .slice F.S.a F.S.m F.S.c, .int .i64 (F.P.n : Int), .int .i64 (F.P.W : Int), .int .i64 (F.P.L : Int), .slice F.P.a F.P.m F.P.c, .slice E A3.length c], .string ⟨#[98]⟩] u fun e u' => ∃ A ac, e = .returned (.slice A 1 ac) ∧ NumsAt .i64 u' A [1] ∧ VX w b F E c A3 u'
  eq0 : ∀ u, VX w b F E c A3 u → Calls Tryz.prog 28 #[.agg #[.int .i64 (F.N : Int), .int .i64 F.Z, .slice F.wa F.wW F.wc, .int .i64 (F.R.n : Int), .slice F.R.a F.R.m F.R.c, .int .i64 (F.R.cn : Int), .int .i64 (F.R.cW : Int), .int .i64 (F.R.cL : Int), .slice F.R.a2 F.R.m2 F.R.c2, .int .i64 (F.S.n : Int), .int .i64 (F.S.W : Int), .int .i64 (F.S.L : Int), .slice F.S.a F.S.m F.S.c, .int .i64 (F.P.n : Int), .int .i64 (F.P.W : Int), .int .i64 (F.P.L : Int), .slice F.P.a F.P.m F.P.c, .slice E A3.length c], .string ⟨#[]⟩] u fun e u' => ∃ A ac, e = .returned (.slice A 1 ac) ∧ NumsAt .i64 u' A [2] ∧ VX w b F E c A3 u'
  cn1 : ∀ u, VX w b F E c A3 u → Calls Tryz.prog 30 #[.agg #[.int .i64 (F.N : Int), .int .i64 F.Z, .slice F.wa F.wW F.wc, .int .i64 (F.R.n : Int), .slice F.R.a F.R.m F.R.c, .int .i64 (F.R.cn : Int), .int .i64 (F.R.cW : Int), .int .i64 (F.R.cL : Int), .slice F.R.a2 F.R.m2 F.R.c2, .int .i64 (F.S.n : Int), .int .i64 (F.S.W : Int), .int .i64 (F.S.L : Int), .slice F.S.a F.S.m F.S.c, .int .i64 (F.P.n : Int), .int .i64 (F.P.W : Int), .int .i64 (F.P.L : Int), .slice F.P.a F.P.m F.P.c, .slice E A3.length c], .string ⟨#[98]⟩] u fun e u' => e = .returned (.int .i64 2) ∧ VX w b F E c A3 u'
  cn0 : ∀ u, VX w b F E c A3 u → Calls Tryz.prog 30 #[.agg #[.int .i64 (F.N : Int), .int .i64 F.Z, .slice F.wa F.wW F.wc, .int .i64 (F.R.n : Int), .slice F.R.a F.R.m F.R.c, .int .i64 (F.R.cn : Int), .int .i64 (F.R.cW : Int), .int .i64 (F.R.cL : Int), .slice F.R.a2 F.R.m2 F.R.c2, .int .i64 (F.S.n : Int), .int .i64 (F.S.W : Int), .int .i64 (F.S.L : Int), .slice F.S.a F.S.m F.S.c, .int .i64 (F.P.n : Int), .int .i64 (F.P.W : Int), .int .i64 (F.P.L : Int), .slice F.P.a F.P.m F.P.c, .slice E A3.length c], .string ⟨#[]⟩] u fun e u' => e = .returned (.int .i64 6) ∧ VX w b F E c A3 u'
theorem AWV.all (w : World) (b : Nat) (F : FQ) (E : Option Addr) (c : Nat) : AWV w b F E c where
  get u hu := (hu.get 0 (by decide)).mono fun _ _ hh => ⟨hh.1, hh.2.2⟩
  ids u hu := (hu.ids ⟨#[98]⟩ (by decide)).mono fun _ _ ⟨A, ac, h1, h2, _, h4⟩ => by rw [a3_ids] at h1 h2; exact ⟨A, ac, h1, h2, h4⟩
  eq1 u hu := (hu.equal ⟨#[98]⟩ (by decide)).mono fun _ _ ⟨A, ac, h1, h2, _, h4⟩ => by rw [a3_eq1] at h1 h2; exact ⟨A, ac, h1, h2, h4⟩
  eq0 u hu := (hu.equal ⟨#[]⟩ (by decide)).mono fun _ _ ⟨A, ac, h1, h2, _, h4⟩ => by rw [a3_eq0] at h1 h2; exact ⟨A, ac, h1, h2, h4⟩
  cn1 u hu := (hu.count ⟨#[98]⟩ (by decide)).mono fun _ _ hh => ⟨by rw [hh.1, a3_len, a3_cn1]; rfl, hh.2.2⟩
  cn0 u hu := (hu.count ⟨#[]⟩ (by decide)).mono fun _ _ hh => ⟨by rw [hh.1, a3_len, a3_cn0]; rfl, hh.2.2⟩

set_option linter.unusedSimpArgs false in
set_option maxHeartbeats 8000000 in
theorem awake_v (w : World) : Calls Tryz.prog 10 #[] w fun e w' => e = .returned (.bool true) ∧ Below w.heap.size w w' := by
  have hnw := vnew_ok (some ⟨w.heap.size, 0, none⟩) 3 3 A3 _ (a3_at w) rfl (by decide)
  have HN := Lib.hid (And.intro hnw (al w (.cells #[.string ⟨#[97, 98]⟩, .string ⟨#[98]⟩, .string ⟨#[]⟩] 9)))
  clear hnw
  go_enter Tryz.func10, Tryz.ntmps10
  go_wp2_with fail
  (with_reducible refine HN.out.1.mono ?_)
  rintro e u1 ⟨F, E, c, rfl, hV, hb⟩
  have hb1 := HN.out.2.trans (hb.mono HN.out.2.size)
  have hX := VX.stored (c := c) hV hb1
  clear hV hb hb1 HN
  go_upto_region 2 with (refine store40 (op := ⟨none, .store 40 (.tmp 1) (.tmp 11), _, _, _, _⟩) F E A3.length c u1.heap.size (.tmp 1) (.tmp 11) rfl rfl rfl rfl (there18 u1) ?_)
  generalize (u1.alloc (.cells #[.int .i64 0, .int .i64 0, .slice none 0 0, .int .i64 0, .slice none 0 0, .int .i64 0, .int .i64 0, .int .i64 0, .slice none 0 0, .int .i64 0, .int .i64 0, .int .i64 0, .slice none 0 0, .int .i64 0, .int .i64 0, .int .i64 0, .slice none 0 0, .slice none 0 0] 40)).setCells u1.heap.size 0 [.int .i64 (F.N : Int), .int .i64 F.Z, .slice F.wa F.wW F.wc, .int .i64 (F.R.n : Int), .slice F.R.a F.R.m F.R.c, .int .i64 (F.R.cn : Int), .int .i64 (F.R.cW : Int), .int .i64 (F.R.cL : Int), .slice F.R.a2 F.R.m2 F.R.c2, .int .i64 (F.S.n : Int), .int .i64 (F.S.W : Int), .int .i64 (F.S.L : Int), .slice F.S.a F.S.m F.S.c, .int .i64 (F.P.n : Int), .int .i64 (F.P.W : Int), .int .i64 (F.P.L : Int), .slice F.P.a F.P.m F.P.c, .slice E A3.length c] = u2 at *
  have HW := Lib.hid (AWV.all w u1.heap.size F E c)
  have H2 := Lib.hid hX
  clear hX
  go_upto_region 3 with (first | (refine load40 H2.out _ (by with_reducible rfl) rfl rfl ?_) | (go_at_call 13; (with_reducible refine (HW.out.get _ H2.out).mono ?_); rintro e u3 ⟨rfl, hA⟩; have H3 := Lib.hid hA; clear hA H2))
  go_upto_region 4 with (first | (refine load40 H3.out _ (by with_reducible rfl) rfl rfl ?_) | (go_at_call 26; (with_reducible refine (HW.out.ids _ H3.out).mono ?_); rintro e u4 ⟨A4, c4, rfl, hN, hA⟩; have H4 := Lib.hid (And.intro ((hA.kept (al u4 (.cells #[.int .i64 0, .int .i64 1] 3)))) (And.intro (hN.kept (al u4 (.cells #[.int .i64 0, .int .i64 1] 3))) (two_nums u4 0 1))); clear hA hN H3) | (go_at_call 18; (with_reducible refine (same_vx H4.out.1 _ _ 2 _ _ [0, 1] H4.out.2.1 H4.out.2.2 rfl (by omega)).mono ?_); rintro e u5 ⟨rfl, hA⟩; have H5 := Lib.hid hA; clear hA H4))
  go_upto_region 5 with (first | (refine load40 H5.out _ (by with_reducible rfl) rfl rfl ?_) | (go_at_call 28; (with_reducible refine (HW.out.eq1 _ H5.out).mono ?_); rintro e u6 ⟨A6, c6, rfl, hN, hA⟩; have H6 := Lib.hid (And.intro ((hA.kept (al u6 (.cells #[.int .i64 1] 3)))) (And.intro (hN.kept (al u6 (.cells #[.int .i64 1] 3))) (nums_one u6 1))); clear hA hN H5) | (go_at_call 18; (with_reducible refine (same_vx H6.out.1 _ _ 1 _ _ [1] H6.out.2.1 H6.out.2.2 rfl (by omega)).mono ?_); rintro e u7 ⟨rfl, hA⟩; have H7 := Lib.hid hA; clear hA H6))
  go_upto_region 6 with (first | (refine load40 H7.out _ (by with_reducible rfl) rfl rfl ?_) | (go_at_call 28; (with_reducible refine (HW.out.eq0 _ H7.out).mono ?_); rintro e u8 ⟨A8, c8, rfl, hN, hA⟩; have H8 := Lib.hid (And.intro ((hA.kept (al u8 (.cells #[.int .i64 2] 3)))) (And.intro (hN.kept (al u8 (.cells #[.int .i64 2] 3))) (nums_one u8 2))); clear hA hN H7) | (go_at_call 18; (with_reducible refine (same_vx H8.out.1 _ _ 1 _ _ [2] H8.out.2.1 H8.out.2.2 rfl (by omega)).mono ?_); rintro e u9 ⟨rfl, hA⟩; have H9 := Lib.hid hA; clear hA H8))
  go_wp2_with (first | (refine load40 H9.out _ (by with_reducible rfl) rfl rfl ?_) | (go_at_call 30; (with_reducible refine (HW.out.cn1 _ H9.out).mono ?_); rintro e u10 ⟨rfl, hA⟩; have H10 := Lib.hid hA; clear hA H9) | (refine load40 H10.out _ (by with_reducible rfl) rfl rfl ?_) | (go_at_call 30; (with_reducible refine (HW.out.cn0 _ H10.out).mono ?_); rintro e u11 ⟨rfl, hA⟩; have H11 := Lib.hid hA; clear hA H10))
  go_ret
  exact ⟨rfl, H11.out.bel⟩

end Go.Proofs.YtpnjccomngdblaaGreat
end

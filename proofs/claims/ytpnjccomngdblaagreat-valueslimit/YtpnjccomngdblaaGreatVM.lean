/- Merged out of: VA VB VC VE VF. -/
import Derived.Test.YtpnjccomngdblaaGreatBb
import Derived.Deep.Strs
import Derived.Test.YtpnjccomngdblaaGreatWB

section
/- Plain facts: the row of texts, where texts begin, where a text stands in another. No program is named here. -/
set_option maxRecDepth 100000
namespace Go.Proofs.YtpnjccomngdblaaGreat

/-- The symbols of a text; the row of texts; the text at a place; where it begins. -/
def sy (s : ByteArray) : List Int := s.data.toList.map fun b => (b.toNat : Int) + 1
def rowV (ss : List ByteArray) : List Int := ss.flatMap fun s => sy s ++ [0]
def tV (ss : List ByteArray) (i : Nat) : ByteArray := ss.getD i ⟨#[]⟩
def bg (ss : List ByteArray) : Nat → Nat
  | 0 => 0
  | i + 1 => bg ss i + ((tV ss i).size + 1)

theorem sy_len (s : ByteArray) : (sy s).length = s.size := by simp [sy]
theorem sy_at (s : ByteArray) {j : Nat} (h : j < s.size) : (sy s).getD j 0 = ((s.data.toList.getD j 0).toNat : Int) + 1 := by
  have : j < s.data.toList.length := by simpa using h
  unfold sy
  rw [List.getD_eq_getElem?_getD, List.getElem?_map, List.getD_eq_getElem?_getD, List.getElem?_eq_getElem this]
  rfl
theorem sy_in (s : ByteArray) : ∀ x ∈ sy s, 1 ≤ x ∧ x < 257 := by
  intro x hx
  obtain ⟨b, -, rfl⟩ := List.mem_map.1 hx
  have := b.toNat_lt
  omega
theorem bg_up (ss : List ByteArray) (i : Nat) : bg ss (i + 1) = bg ss i + (tV ss i).size + 1 := rfl
theorem bg_mono (ss : List ByteArray) {i j : Nat} (h : i ≤ j) : bg ss i ≤ bg ss j := by
  induction j with
  | zero => obtain rfl : i = 0 := by omega
            exact Nat.le_refl _
  | succ j ih =>
    by_cases e : i = j + 1
    · rw [e]; exact Nat.le_refl _
    · have := ih (by omega)
      rw [bg_up]; omega
theorem bg_lt (ss : List ByteArray) {i j : Nat} (h : i < j) : bg ss i + (tV ss i).size < bg ss j := by
  have := bg_mono ss (i := i + 1) (j := j) h
  rw [bg_up] at this
  omega
theorem tV_in {ss : List ByteArray} {i : Nat} (h : i < ss.length) : tV ss i = ss[i] := by
  unfold tV; rw [List.getD_eq_getElem?_getD, List.getElem?_eq_getElem h, Option.getD_some]
theorem tV_mem {ss : List ByteArray} {i : Nat} (h : i < ss.length) : tV ss i ∈ ss := by rw [tV_in h]; exact List.getElem_mem h
theorem tV_app (ss : List ByteArray) (r : List ByteArray) {i : Nat} (h : i < ss.length) : tV (ss ++ r) i = tV ss i := by
  unfold tV; rw [List.getD_eq_getElem?_getD, List.getD_eq_getElem?_getD, List.getElem?_append_left h]
theorem tV_app2 (ss r : List ByteArray) (i : Nat) : tV (ss ++ r) (ss.length + i) = tV r i := by
  unfold tV; rw [List.getD_eq_getElem?_getD, List.getD_eq_getElem?_getD, List.getElem?_append_right (by omega), Nat.add_sub_cancel_left]
theorem bg_app (ss r : List ByteArray) : ∀ {i : Nat}, i ≤ ss.length → bg (ss ++ r) i = bg ss i := by
  intro i
  induction i with
  | zero => intro _; rfl
  | succ i ih => intro h; rw [bg_up, bg_up, ih (by omega), tV_app ss r (by omega)]
theorem bg_app2 (ss r : List ByteArray) (i : Nat) : bg (ss ++ r) (ss.length + i) = bg ss ss.length + bg r i := by
  induction i with
  | zero => rw [Nat.add_zero, bg_app ss r (Nat.le_refl _)]; rfl
  | succ i ih => rw [show ss.length + (i + 1) = (ss.length + i) + 1 by omega, bg_up, bg_up, ih, tV_app2]; omega
theorem rowV_app (a b : List ByteArray) : rowV (a ++ b) = rowV a ++ rowV b := by unfold rowV; rw [List.flatMap_append]
theorem rowV_one (s : ByteArray) : rowV [s] = sy s ++ [0] := by simp [rowV]
theorem rowV_take (ss : List ByteArray) {i : Nat} (h : i < ss.length) : rowV (ss.take (i + 1)) = rowV (ss.take i) ++ (sy (tV ss i) ++ [0]) := by
  rw [List.take_succ_eq_append_getElem h, rowV_app, rowV_one, tV_in h]
theorem row_take_len (ss : List ByteArray) : ∀ i, i ≤ ss.length → (rowV (ss.take i)).length = bg ss i := by
  intro i
  induction i with
  | zero => intro _; simp [rowV, bg]
  | succ i ih =>
    intro h
    rw [rowV_take ss (by omega), List.length_append, ih (by omega), bg_up, List.length_append, sy_len]
    simp [Nat.add_assoc]
theorem row_len (ss : List ByteArray) : (rowV ss).length = bg ss ss.length := by
  have := row_take_len ss ss.length (Nat.le_refl _)
  rwa [List.take_length] at this
theorem row_split (ss : List ByteArray) {i : Nat} (h : i < ss.length) : rowV ss = rowV (ss.take i) ++ ((sy (tV ss i) ++ [0]) ++ rowV (ss.drop (i + 1))) := by
  conv => lhs; rw [← List.take_append_drop (i + 1) ss]
  rw [rowV_app, rowV_take ss h, List.append_assoc]
theorem row_at (ss : List ByteArray) {i k : Nat} (h : i < ss.length) (hk : k < (tV ss i).size) : (rowV ss).getD (bg ss i + k) 0 = (sy (tV ss i)).getD k 0 := by
  have hl := row_take_len ss i (by omega)
  have hs := sy_len (tV ss i)
  rw [row_split ss h, List.getD_eq_getElem?_getD, List.getElem?_append_right (by omega), List.getElem?_append_left (by rw [List.length_append]; omega), List.getElem?_append_left (by omega), hl, Nat.add_sub_cancel_left, ← List.getD_eq_getElem?_getD]
theorem row_end (ss : List ByteArray) {i : Nat} (h : i < ss.length) : (rowV ss).getD (bg ss i + (tV ss i).size) 0 = 0 := by
  have hl := row_take_len ss i (by omega)
  have hs := sy_len (tV ss i)
  rw [row_split ss h, List.getD_eq_getElem?_getD, List.getElem?_append_right (by omega), List.getElem?_append_left (by simp only [List.length_append, List.length_singleton]; omega), List.getElem?_append_right (by omega), hl, Nat.add_sub_cancel_left, hs, Nat.sub_self]
  rfl
theorem row_in (ss : List ByteArray) : ∀ x ∈ rowV ss, 0 ≤ x ∧ x < 257 := by
  intro x hx
  unfold rowV at hx
  obtain ⟨s, -, hx⟩ := List.mem_flatMap.1 hx
  rcases List.mem_append.1 hx with hx | hx
  · have := sy_in s x hx; omega
  · obtain rfl := List.mem_singleton.1 hx; omega
/-- In which text a place is. -/
theorem text_of (ss : List ByteArray) : ∀ n q, q < bg ss n → ∃ i, i < n ∧ bg ss i ≤ q ∧ q < bg ss (i + 1) := by
  intro n
  induction n with
  | zero => intro q h; exact absurd h (Nat.not_lt_zero _)
  | succ n ih =>
    intro q h
    by_cases e : q < bg ss n
    · obtain ⟨i, h1, h2⟩ := ih q e
      exact ⟨i, by omega, h2⟩
    · exact ⟨n, by omega, by omega, h⟩
/-! ## Where a text stands -/
/-- Does p stand in s at k? -/
def inT (s p : ByteArray) (k : Nat) : Bool := decide (k + p.size ≤ s.size) && (List.range p.size).all fun j => s.data.toList.getD (k + j) 0 == p.data.toList.getD j 0
theorem inT_iff (s p : ByteArray) (k : Nat) : inT s p k = true ↔ k + p.size ≤ s.size ∧ ∀ j, j < p.size → s.data.toList.getD (k + j) 0 = p.data.toList.getD j 0 := by
  unfold inT
  simp only [Bool.and_eq_true, decide_eq_true_eq, List.all_eq_true, List.mem_range, beq_iff_eq]
theorem ba_len (s : ByteArray) : s.data.toList.length = s.size := by simp
theorem ba_ext {a b : ByteArray} (h : a.size = b.size) (h2 : ∀ j, j < b.size → a.data.toList.getD j 0 = b.data.toList.getD j 0) : a = b := by
  apply ByteArray.ext
  apply Array.toList_inj.1
  apply List.ext_getElem (by rw [ba_len, ba_len, h])
  intro i h3 h4
  have := h2 i (by rwa [ba_len] at h4)
  rwa [List.getD_eq_getElem?_getD, List.getD_eq_getElem?_getD, List.getElem?_eq_getElem h3, List.getElem?_eq_getElem h4] at this
theorem ba_ex_size (s : ByteArray) {a b : Nat} (h : b ≤ s.size) : (s.extract a b).size = b - a := by simp; omega
theorem ba_ex_list (s : ByteArray) (a b : Nat) : (s.extract a b).data.toList = (s.data.toList.take b).drop a := by
  rw [ByteArray.data_extract, Array.toList_extract]
  rw [List.extract_eq_take_drop, List.drop_take]
theorem ba_ex_at (s : ByteArray) {a b j : Nat} (h : a + j < b) (_hb : b ≤ s.size) : (s.extract a b).data.toList.getD j 0 = s.data.toList.getD (a + j) 0 := by
  rw [ba_ex_list, List.getD_eq_getElem?_getD, List.getElem?_drop, List.getElem?_take, if_pos h, List.getD_eq_getElem?_getD]
theorem inT_ex (s p : ByteArray) (k : Nat) : inT s p k = true ↔ k + p.size ≤ s.size ∧ s.extract k (k + p.size) = p := by
  rw [inT_iff]
  refine ⟨fun ⟨h1, h2⟩ => ⟨h1, ba_ext (by rw [ba_ex_size s h1]; omega) fun j hj => ?_⟩, fun ⟨h1, h2⟩ => ⟨h1, fun j hj => ?_⟩⟩
  · rw [ba_ex_at s (by omega) h1]; exact h2 j hj
  · rw [← ba_ex_at s (b := k + p.size) (by omega) h1, h2]
theorem u8_inj {a b : UInt8} (h : ((a.toNat : Int) + 1) = (b.toNat : Int) + 1) : a = b := UInt8.toNat_inj.1 (by omega)

/-- How often p stands in the first texts. -/
def cnV (ss : List ByteArray) (p : ByteArray) : Nat → Nat
  | 0 => 0
  | i + 1 => cnV ss p i + (List.range ((tV ss i).size + 1)).countP (inT (tV ss i) p)
theorem inT_nil (s p : ByteArray) (hp : p.size = 0) {k : Nat} (h : k ≤ s.size) : inT s p k = true := by
  rw [inT_iff]; exact ⟨by omega, fun j hj => by omega⟩
theorem cn_nil (ss : List ByteArray) (p : ByteArray) (hp : p.size = 0) : ∀ i, cnV ss p i = bg ss i := by
  intro i
  induction i with
  | zero => rfl
  | succ i ih =>
    rw [bg_up, cnV, ih]
    have := (List.countP_eq_length (p := inT (tV ss i) p) (l := List.range ((tV ss i).size + 1))).2 (fun k hk => inT_nil _ _ hp (by have := List.mem_range.1 hk; omega))
    rw [this, List.length_range]; omega
/-! ## The ends -/
def endV (ss : List ByteArray) : List Int := (List.range ss.length).map fun i => ((bg ss i + (tV ss i).size : Nat) : Int)
theorem end_len (ss : List ByteArray) : (endV ss).length = ss.length := by simp [endV]
theorem end_at (ss : List ByteArray) {i : Nat} (h : i < ss.length) : (endV ss).getD i 0 = ((bg ss i + (tV ss i).size : Nat) : Int) := by
  simp [endV, List.getD_eq_getElem?_getD, h]
theorem asc_eq : ∀ a b : List Int, a.Pairwise (· < ·) → b.Pairwise (· < ·) → (∀ x, x ∈ a ↔ x ∈ b) → a = b := by
  intro a
  induction a with
  | nil =>
    intro b _ _ h
    cases b with
    | nil => rfl
    | cons y b => exact absurd ((h y).2 (List.mem_cons_self ..)) (by simp)
  | cons x a ih =>
    intro b ha hb h
    cases b with
    | nil => exact absurd ((h x).1 (List.mem_cons_self ..)) (by simp)
    | cons y b =>
      rw [List.pairwise_cons] at ha hb
      have exy : x = y := by
        rcases List.mem_cons.1 ((h x).1 (List.mem_cons_self ..)) with e | e
        · exact e
        · rcases List.mem_cons.1 ((h y).2 (List.mem_cons_self ..)) with e2 | e2
          · exact e2.symm
          · have := hb.1 x e
            have := ha.1 y e2
            omega
      subst exy
      rw [ih b ha.2 hb.2 fun z => ?_]
      constructor
      · intro hz
        rcases List.mem_cons.1 ((h z).1 (List.mem_cons_of_mem _ hz)) with e | e
        · have := ha.1 z hz; omega
        · exact e
      · intro hz
        rcases List.mem_cons.1 ((h z).2 (List.mem_cons_of_mem _ hz)) with e | e
        · have := hb.1 z hz; omega
        · exact e
theorem map_asc {n : Nat} {f : Nat → Int} (h : ∀ i j, i < j → j < n → f i < f j) : ((List.range n).map f).Pairwise (· < ·) := by
  rw [List.pairwise_iff_getElem]
  intro i j hi hj hij
  simp only [List.length_map, List.length_range] at hi hj
  simp only [List.getElem_map, List.getElem_range]
  exact h i j hij hj
theorem filt_asc (n : Nat) (P : Nat → Bool) : (((List.range n).filter P).map Int.ofNat).Pairwise (· < ·) := by
  rw [List.pairwise_map]
  exact (List.Pairwise.filter _ List.pairwise_lt_range).imp fun h => Int.ofNat_lt.2 h
theorem end_asc (ss : List ByteArray) : (endV ss).Pairwise (· < ·) := map_asc fun i j hij hj => by have := bg_lt ss hij; omega
/-! ## In which texts -/
def hasT (s p : ByteArray) : Bool := (List.range (s.size + 1)).any (inT s p)
def idsV (ss : List ByteArray) (p : ByteArray) : List Int := ((List.range ss.length).filter fun i => hasT (tV ss i) p).map Int.ofNat
def eqV (ss : List ByteArray) (p : ByteArray) : List Int := ((List.range ss.length).filter fun i => decide (tV ss i = p)).map Int.ofNat
theorem hasT_iff (s p : ByteArray) : hasT s p = true ↔ ∃ k, k ≤ s.size ∧ inT s p k = true := by
  unfold hasT
  simp only [List.any_eq_true, List.mem_range]
  exact ⟨fun ⟨k, h1, h2⟩ => ⟨k, by omega, h2⟩, fun ⟨k, h1, h2⟩ => ⟨k, by omega, h2⟩⟩
theorem ids_mem {ss : List ByteArray} {p : ByteArray} {x : Int} : x ∈ idsV ss p ↔ ∃ i : Nat, x = (i : Int) ∧ i < ss.length ∧ hasT (tV ss i) p = true := by
  unfold idsV
  simp only [List.mem_map, List.mem_filter, List.mem_range]
  exact ⟨fun ⟨i, ⟨h1, h2⟩, h3⟩ => ⟨i, h3.symm, h1, h2⟩, fun ⟨i, h3, h1, h2⟩ => ⟨i, ⟨h1, h2⟩, h3.symm⟩⟩
theorem eq_mem {ss : List ByteArray} {p : ByteArray} {x : Int} : x ∈ eqV ss p ↔ ∃ i : Nat, x = (i : Int) ∧ i < ss.length ∧ tV ss i = p := by
  unfold eqV
  simp only [List.mem_map, List.mem_filter, List.mem_range, decide_eq_true_eq]
  exact ⟨fun ⟨i, ⟨h1, h2⟩, h3⟩ => ⟨i, h3.symm, h1, h2⟩, fun ⟨i, h3, h1, h2⟩ => ⟨i, ⟨h1, h2⟩, h3.symm⟩⟩
/-! ## Which texts are -/
/-! ## A text that is longer than all is cut -/
def cutV (ss : List ByteArray) (p : ByteArray) : ByteArray := p.extract 0 (min p.size (bg ss ss.length - ss.length + 1))
theorem size_le (ss : List ByteArray) : ∀ n i, i < n → (tV ss i).size + n ≤ bg ss n := by
  intro n
  induction n with
  | zero => intro i h; omega
  | succ n ih =>
    intro i h
    rw [bg_up]
    by_cases e : i = n
    · subst e
      have : ∀ m, m ≤ bg ss m := by
        intro m
        induction m with
        | zero => exact Nat.zero_le _
        | succ m ihm => rw [bg_up]; omega
      have := this i
      omega
    · have := ih i (by omega)
      omega
theorem cut_same {ss : List ByteArray} {p : ByteArray} (h : p.size ≤ bg ss ss.length - ss.length + 1) : cutV ss p = p := by
  unfold cutV
  rw [Nat.min_eq_left h]
  exact ba_ext (by rw [ba_ex_size p (Nat.le_refl _)]; omega) fun j hj => by rw [ba_ex_at p (by omega) (Nat.le_refl _), Nat.zero_add]
theorem cut_size (ss : List ByteArray) (p : ByteArray) : (cutV ss p).size = min p.size (bg ss ss.length - ss.length + 1) := by
  unfold cutV
  rw [ba_ex_size p (Nat.min_le_left _ _)]; omega
theorem cut_inT {ss : List ByteArray} (p : ByteArray) {i : Nat} (hi : i < ss.length) (k : Nat) : inT (tV ss i) (cutV ss p) k = inT (tV ss i) p k := by
  by_cases h : p.size ≤ bg ss ss.length - ss.length + 1
  · rw [cut_same h]
  · have h1 := size_le ss ss.length i hi
    have h2 := cut_size ss p
    have e1 : inT (tV ss i) (cutV ss p) k = false := by
      rw [Bool.eq_false_iff]; intro hh; have := ((inT_iff _ _ _).1 hh).1; omega
    have e2 : inT (tV ss i) p k = false := by
      rw [Bool.eq_false_iff]; intro hh; have := ((inT_iff _ _ _).1 hh).1; omega
    rw [e1, e2]
theorem cut_eq {ss : List ByteArray} (p : ByteArray) {i : Nat} (hi : i < ss.length) : tV ss i = cutV ss p ↔ tV ss i = p := by
  by_cases h : p.size ≤ bg ss ss.length - ss.length + 1
  · rw [cut_same h]
  · have h1 := size_le ss ss.length i hi
    have h2 := cut_size ss p
    constructor
    · intro e; rw [e] at h1; omega
    · intro e; rw [e] at h1; omega
theorem cut_cn (ss : List ByteArray) (p : ByteArray) : ∀ i, i ≤ ss.length → cnV ss (cutV ss p) i = cnV ss p i := by
  intro i
  induction i with
  | zero => intro _; rfl
  | succ i ih =>
    intro h
    rw [cnV, cnV, ih (by omega), show inT (tV ss i) (cutV ss p) = inT (tV ss i) p from funext fun k => cut_inT p (by omega) k]
theorem cut_ids (ss : List ByteArray) (p : ByteArray) : idsV ss (cutV ss p) = idsV ss p := by
  unfold idsV
  refine congrArg (List.map Int.ofNat) (List.filter_congr fun i hi => ?_)
  have hi := List.mem_range.1 hi
  unfold hasT
  rw [show inT (tV ss i) (cutV ss p) = inT (tV ss i) p from funext fun k => cut_inT p hi k]
theorem cut_eqV (ss : List ByteArray) (p : ByteArray) : eqV ss (cutV ss p) = eqV ss p := by
  unfold eqV
  refine congrArg (List.map Int.ofNat) (List.filter_congr fun i hi => ?_)
  have hi := List.mem_range.1 hi
  rw [decide_eq_decide]
  exact cut_eq p hi

/-! ## A row of texts, or none -/
def endB (m : List Int) : Bool := decide (m.length = 0) || decide (m.getD (m.length - 1) 0 = 0)
theorem texts_of : ∀ m : List Int, (∀ x ∈ m, 0 ≤ x ∧ x < 257) → (m = [] ∨ m.getLast? = some 0) → ∃ ss, rowV ss = m := by
  intro m
  induction m with
  | nil => intro _ _; exact ⟨[], rfl⟩
  | cons x m ih =>
    intro h1 h2
    have hl : m = [] ∨ m.getLast? = some 0 := by
      rcases h2 with h2 | h2
      · cases h2
      · cases m with
        | nil => exact .inl rfl
        | cons y m => right; rwa [List.getLast?_cons_cons] at h2
    obtain ⟨ss, hss⟩ := ih (fun y hy => h1 y (List.mem_cons_of_mem _ hy)) hl
    by_cases ex : x = 0
    · subst ex
      refine ⟨⟨#[]⟩ :: ss, ?_⟩
      rw [← hss]
      simp [rowV, sy]
    · have hx := h1 x (List.mem_cons_self ..)
      cases ss with
      | nil =>
        exfalso
        have hm : m = [] := by rw [← hss]; rfl
        subst hm
        rcases h2 with h2 | h2
        · cases h2
        · simp at h2; exact ex h2
      | cons s ss =>
        refine ⟨⟨(UInt8.ofNat (x.toNat - 1) :: s.data.toList).toArray⟩ :: ss, ?_⟩
        rw [← hss]
        have e : ((UInt8.ofNat (x.toNat - 1)).toNat : Int) + 1 = x := by
          rw [UInt8.toNat_ofNat']
          omega
        simp only [rowV, sy, List.flatMap_cons, List.map_cons, List.cons_append]
        rw [e]


end Go.Proofs.YtpnjccomngdblaaGreat
end

section
/- Rows of texts in memory; the contracts of short, stands, few, withSymbols. -/
set_option maxRecDepth 100000
namespace Go.Proofs.YtpnjccomngdblaaGreat
open Go.RowKit
open M
attribute [local go_sem ↓] Go.wp_at_zero Go.wp_at_succ

/-- The texts ss lie at a. -/
def StrsAt (w : World) (a : Option Addr) (ss : List ByteArray) : Prop :=
  ss = [] ∨ ∃ b off, a = some ⟨b, off, none⟩ ∧ b < w.heap.size ∧ ∀ j, j < ss.length → w.cell? ⟨b, off + j, none⟩ = some (.string (tV ss j))
theorem StrsAt.kept {w w' : World} {a : Option Addr} {ss : List ByteArray} (h : StrsAt w a ss) (hb : Below w.heap.size w w') : StrsAt w' a ss := by
  rcases h with h | ⟨b, off, h1, h2, h3⟩
  · exact .inl h
  · refine .inr ⟨b, off, h1, Nat.lt_of_lt_of_le h2 hb.size, fun j hj => ?_⟩
    rw [hb.cell (p := ⟨b, off + j, none⟩) h2]
    exact h3 j hj
theorem str_at {w : World} {a : Option Addr} {ss : List ByteArray} (h : StrsAt w a ss) {i : Nat} (hi : i < ss.length) : ∃ b off, a = some ⟨b, off, none⟩ ∧ b < w.heap.size ∧ w.cell? ⟨b, off + i, none⟩ = some (.string (tV ss i)) := by
  rcases h with rfl | ⟨b, off, h1, h2, h3⟩
  · exact absurd hi (by simp)
  · exact ⟨b, off, h1, h2, h3 i hi⟩
theorem strs_in {H : Type} {enc : TypeId × Value → H} {W : World} {a0 : Option Addr} {len cap : Nat} {x : DataW H} {pl : List MemPlace}
    (h : DataW.Trod enc Tryz.prog W 0 (fun _ => true) true 22 (.slice a0 len cap) x pl) : ∃ ss : List ByteArray, ss.length = len ∧ len ≤ maxLen ∧ StrsAt W a0 ss ∧ ∀ s ∈ ss, s.size ≤ maxLen := by
  obtain ⟨fuel, hf⟩ := h
  rcases Go.Deep.open_strs Tryz.underlying22 Tryz.underlying9 (by kernel_rfl) hf with ⟨hcs, _⟩ | ⟨a, l, c, m, Sx, hcs, _, hl, hm, hmm, _, hcell⟩
  · simp [Value.cells] at hcs
    obtain ⟨rfl, rfl, rfl⟩ := hcs
    exact ⟨[], rfl, by unfold maxLen; omega, .inl rfl, by simp⟩
  · simp [Value.cells] at hcs
    obtain ⟨rfl, rfl, rfl⟩ := hcs
    simp only [if_true] at hmm
    subst hmm
    refine ⟨(List.range len).map Sx, by simp, by omega, ?_, fun s hs => ?_⟩
    · by_cases h0 : len = 0
      · subst h0; exact .inl rfl
      · obtain ⟨b, off, spot⟩ := a
        have hc0 := (hcell 0 (by omega)).1
        have hspot : spot = none := by simpa [Addr.add] using World.cell?_spot hc0
        subst hspot
        have hlt := World.block_lt_of_cell? W _ hc0
        refine .inr ⟨b, off, rfl, by simpa [Addr.add] using hlt, fun j hj => ?_⟩
        have hj' : j < len := by simpa using hj
        have := (hcell j (by omega)).1
        simp only [Addr.add] at this
        have e : (⟨b, off + j, none⟩ : Addr) = if j = 0 then ⟨b, off, none⟩ else ⟨b, off + j, none⟩ := by split <;> simp_all
        rw [e]
        simpa [tV, List.getD_eq_getElem?_getD, hj'] using this
    · obtain ⟨i, hi, rfl⟩ := List.mem_map.1 hs
      exact (hcell i (by have := List.mem_range.1 hi; omega)).2

/-- A row of texts of the call's own. -/
def OwnS (w : World) (v : Value) (ss : List ByteArray) (u : World) : Prop := u.ownsRow w.heap.size 9 1 v ss.length (ss.map Value.string) ∧ Below w.heap.size w u
theorem OwnS.kept {w u u' : World} {v : Value} {ss : List ByteArray} (h : OwnS w v ss u) (hb : Below u.heap.size u u') : OwnS w v ss u' := ⟨own_kept h.1 hb, h.2.trans (hb.mono h.2.size)⟩
theorem OwnS.app {w u u' : World} {v v' : Value} {l l' : List ByteArray} (h : OwnS w v l u) (hown : u'.ownsRow w.heap.size 9 1 v' l'.length (l'.map Value.string)) (hg : u.grownBy u' v.ownBlock) : OwnS w v' l' u' := by
  have hk : Kp (fun k => v.ownBlock = some k) u u' := (Kp.refl _ u).grown hg (fun k hk _ => hk)
  exact ⟨hown, h.2.trans (hk.toBelow h.2.size (fun k hk e => by have := (h.1.lt k e).1; omega))⟩
theorem OwnS.alloc {w u : World} {v : Value} {l : List ByteArray} (h : OwnS w v l u) (o : Obj) : OwnS w v l (u.alloc o) := h.kept ((Below.refl _ _).alloc (Nat.le_refl _) _)
theorem strs_of_own {w : World} {base : Nat} {v : Value} {n : Nat} {ss : List ByteArray} (h : w.ownsRow base 9 1 v n (ss.map Value.string)) : ∃ a cap, v = .slice a n cap ∧ StrsAt w a ss ∧ ss.length = n ∧ n ≤ cap ∧ cap ≤ maxLen ∧ (a = none → cap = 0) := by
  have h' := h
  obtain ⟨h1, h2⟩ := h
  have hl : ss.length = n := by simpa using h1
  rcases h2 with ⟨rfl, hn⟩ | ⟨g, cap, cur, rfl, hg, hh, hc1, hc2, hc3, hc4⟩
  · subst hn
    exact ⟨none, 0, rfl, .inl (List.eq_nil_of_length_eq_zero hl), hl, Nat.le_refl _, by unfold maxLen; omega, fun _ => rfl⟩
  · refine ⟨_, cap, rfl, .inr ⟨g, 0, rfl, (World.ownsRow.lt h' g rfl).2, fun j hj => ?_⟩, hl, hc1, hc2, fun e => by simp at e⟩
    rw [Nat.zero_add, World.ownsRow.cellAt h' j (by omega)]
    simp [tV, List.getD_eq_getElem?_getD, hj]
theorem strs_one (w : World) (s : ByteArray) : StrsAt (w.alloc (.cells #[.string s] 9)) (some ⟨w.heap.size, 0, none⟩) [s] := by
  refine .inr ⟨w.heap.size, 0, rfl, by simp, fun j hj => ?_⟩
  obtain rfl : j = 0 := by simpa using hj
  simp [tV]
theorem info9 : (Tryz.prog.info? 9).map (fun i => (i.zero, i.size, i.bytes)) = some (some (.string ⟨#[]⟩), 1, 16) := by kernel_rfl
theorem wpList_append_strs {w : World} {ops : Array Oper} {rest : List Oper} {o : Oper} {a : Act} {Q : Exit → Act → World → Prop} (hgd : o.guard = none) (s x : Operand)
    (ho : o.op = .call { callee := .builtin .append, args := #[s, x], argTypes := #[22, 22] }) (base : Nat) (v : Value) (n : Nat) (xs : List Value) (hs : a.eval s = v) (hown : w.ownsRow base 9 1 v n xs)
    (A : Option Addr) (m c : Nat) (l : List ByteArray) (hx : a.eval x = .slice A m c) (hl : l.length = m) (hA : StrsAt w A l) (hnone : A = none → m = 0 ∧ c = 0) (h63 : n + m ≤ 100000000) (hbase : base ≤ w.heap.size)
    (h : ∀ v' w', w'.ownsRow base 9 1 v' (n + m) (xs ++ l.map Value.string) → w.grownBy w' v.ownBlock → (v'.ownBlock = v.ownBlock ∨ v'.ownBlock = some w.heap.size) → wpList Tryz.prog ops Q rest (a.put o.dst v') w') :
    wpList Tryz.prog ops Q (o :: rest) a w := by
  obtain ⟨i0, hi, hz0, hz1, hz2⟩ := info_parts info9
  cases A with
  | none =>
    obtain ⟨rfl, rfl⟩ := hnone rfl
    obtain rfl : l = [] := List.eq_nil_of_length_eq_zero hl
    refine wpList_append_own_none hgd s x 22 ho base 9 i0 1 Tryz.underlying22 hi v n xs hs hown hx (h v w (by simpa using hown) ⟨rfl, rfl, rfl, Nat.le_refl _, fun _ _ _ => rfl⟩ (.inl rfl))
  | some ad =>
    refine wpList_append_own_at w hgd s x 22 ho base 9 i0 (.string ⟨#[]⟩) 1 16 Tryz.underlying22 hi hz0 hz1 hz2 rfl (by omega) v n xs hs hown ad m c (l.map Value.string) hx (by simp [hl]) ?_ ?_ (by unfold maxLen; omega) (by omega) hbase (fun v' w' k1 k2 _ k4 => h v' w' k1 k2 k4)
    · intro j u hu
      rcases hA with rfl | ⟨b, off, e, -, hc⟩
      · simp at hu
      · obtain rfl : ad = ⟨b, off, none⟩ := by simpa using e
        obtain ⟨hj, hju⟩ := List.getElem?_eq_some_iff.1 hu
        simp only [List.length_map] at hj
        have := hc j hj
        have ea : (⟨b, off, none⟩ : Addr).add j = ⟨b, off + j, none⟩ := by
          simp only [Addr.add]; split
          · rename_i h; simp_all
          · rfl
        rw [ea, this, ← hju]
        simp [tV, List.getD_eq_getElem?_getD, hj]
    · intro u hu
      obtain ⟨k, -, rfl⟩ := List.mem_map.1 hu
      rfl

/-! ## short, stands -/
def shV (s : ByteArray) (n : Nat) : ByteArray := s.extract 0 (min s.size n)
theorem shV_size (s : ByteArray) (n : Nat) : (shV s n).size = min s.size n := by unfold shV; rw [ba_ex_size s (Nat.min_le_left _ _)]; omega
theorem ex_all (s : ByteArray) : s.extract 0 s.size = s := ba_ext (by rw [ba_ex_size s (Nat.le_refl _)]; omega) fun j hj => by rw [ba_ex_at s (by omega) (Nat.le_refl _), Nat.zero_add]
theorem short_any (s : ByteArray) (n : Nat) (w : World) : Calls Tryz.prog 25 #[.string s, .int .i64 (n : Int)] w fun e w' => e = .returned (.string (shV s n)) ∧ w' = w := by
  by_cases h : n < s.size
  · have e : shV s n = s.extract 0 n := by unfold shV; rw [Nat.min_eq_right (by omega)]
    have HE := Lib.hid e
    have q : (n : Int) < (s.size : Int) := by omega
    have q2 : n ≤ s.size := by omega
    clear e h
    go_enter Tryz.func25, Tryz.ntmps25
    go_wp2
    go_ret
    rw [HE.out]
    exact ⟨rfl, rfl⟩
  · have e : shV s n = s := by unfold shV; rw [Nat.min_eq_left (by omega), ex_all]
    have HE := Lib.hid e
    have q : ¬ (n : Int) < (s.size : Int) := by omega
    clear e h
    go_enter Tryz.func25, Tryz.ntmps25
    go_wp2
    go_ret
    rw [HE.out]
    exact ⟨rfl, rfl⟩
theorem short20 (s : ByteArray) (w : World) : Calls Tryz.prog 25 #[.string s, .int .i64 20] w fun e w' => e = .returned (.string (shV s 20)) ∧ w' = w := short_any s 20 w
theorem short8 (s : ByteArray) (w : World) : Calls Tryz.prog 25 #[.string s, .int .i64 8] w fun e w' => e = .returned (.string (shV s 8)) ∧ w' = w := short_any s 8 w
theorem eq_list (a b : ByteArray) : (a.toList == b.toList) = decide (a = b) := by
  rw [Bool.eq_iff_iff, beq_iff_eq, decide_eq_true_eq, ByteArray.toList_eq, ByteArray.toList_eq]
  exact ⟨fun h => ByteArray.ext (Array.toList_inj.1 h), fun h => by rw [h]⟩
theorem stands_any (s p : ByteArray) (k : Nat) (w : World) (hk : k ≤ s.size) (hs : s.size ≤ 1000000) (hp : p.size ≤ 1000000) : Calls Tryz.prog 48 #[.string s, .string p, .int .i64 (k : Int)] w fun e w' => e = .returned (.bool (inT s p k)) ∧ w' = w := by
  have q0 : IntKind.i64.wrap ((s.size : Int) - (k : Int)) = ((s.size - k : Nat) : Int) := by rw [show (s.size : Int) - (k : Int) = ((s.size - k : Nat) : Int) by omega]; exact IntWalk.i64_in _ (by omega)
  have q1 : IntKind.i64.wrap ((k : Int) + (p.size : Int)) = ((k + p.size : Nat) : Int) := by rw [Int.natCast_add]; exact IntWalk.i64_in _ (by omega)
  by_cases h : k + p.size ≤ s.size
  · have e : inT s p k = ((s.extract k (k + p.size)).toList == p.toList) := by
      rw [eq_list, Bool.eq_iff_iff, inT_ex, decide_eq_true_eq]
      exact ⟨fun h => h.2, fun h2 => ⟨h, h2⟩⟩
    have HE := Lib.hid e
    obtain ⟨t, ht⟩ : ∃ t, k + p.size = t := ⟨_, rfl⟩
    rw [ht] at q1 HE h
    obtain ⟨d, hd⟩ : ∃ d, s.size - k = d := ⟨_, rfl⟩
    rw [hd] at q0
    have q3 : (p.size : Int) ≤ (d : Int) := by omega
    have q4 : k ≤ t := by omega
    have q5 : (k : Int) ≤ (t : Int) := by omega
    clear e hk hs hp ht hd
    go_enter Tryz.func48, Tryz.ntmps48
    go_wp2
    go_ret
    rw [HE.out]
    exact ⟨rfl, rfl⟩
  · have e : inT s p k = false := by
      rw [Bool.eq_false_iff]; intro hh; exact h ((inT_iff _ _ _).1 hh).1
    have HE := Lib.hid e
    obtain ⟨d, hd⟩ : ∃ d, s.size - k = d := ⟨_, rfl⟩
    rw [hd] at q0
    have q3 : ¬ (p.size : Int) ≤ (d : Int) := by omega
    clear e h hk hs hp hd
    go_enter Tryz.func48, Tryz.ntmps48
    go_wp2
    go_ret
    rw [HE.out]
    exact ⟨rfl, rfl⟩

/-! ## few -/
def fewL (ss : List ByteArray) (i : Nat) : List ByteArray := (ss.take i).map fun s => shV s 20
theorem fewL_len (ss : List ByteArray) {i : Nat} (h : i ≤ ss.length) : (fewL ss i).length = i := by simp [fewL]; omega
theorem fewL_succ (ss : List ByteArray) {i : Nat} (h : i < ss.length) : fewL ss (i + 1) = fewL ss i ++ [shV (tV ss i) 20] := by
  unfold fewL
  rw [List.take_succ_eq_append_getElem h, List.map_append, tV_in h]
  rfl
theorem fewL_size (ss : List ByteArray) (i : Nat) : ∀ s ∈ fewL ss i, s.size ≤ 20 := by
  intro s hs
  obtain ⟨t, -, rfl⟩ := List.mem_map.1 hs
  rw [shV_size]; omega
set_option maxHeartbeats 2000000 in
theorem few_any (A : Option Addr) (n c : Nat) (ss : List ByteArray) (w : World) (hA : StrsAt w A ss) (hl : ss.length = n) :
    Calls Tryz.prog 11 #[.slice A n c] w fun e u => ∃ v, e = .returned v ∧ OwnS w v (fewL ss (min n 10)) u := by
  have HX := Lib.hid (And.intro hA hl)
  obtain ⟨m, hm⟩ : ∃ m, min n 10 = m := ⟨_, rfl⟩
  rw [hm]
  have hm1 : m ≤ n := by omega
  have hm2 : m ≤ 10 := by omega
  have hm3 : m < n → m = 10 := by omega
  clear hA hl hm
  go_enter Tryz.func11, Tryz.ntmps11
  go_wp2
  go_loopw [3, 4] (fun v3 v4 wr => ∃ i : Nat, i ≤ m ∧ v4 = .int .i64 (i : Int) ∧ OwnS w v3 (fewL ss i) wr) (fun _ v4 _ => m - (intOf v4).toNat)
  case atStart => exact ⟨0, Nat.zero_le _, rfl, World.ownsRow_nil _ _ _ _, Below.refl _ _⟩
  case round =>
    obtain ⟨i, hin, rfl, hI⟩ := hrel
    by_cases hlt : i < m
    · obtain ⟨bb, off, hAe, hbl, hcb⟩ := str_at (HX.out.1.kept hI.2) (i := i) (by rw [HX.out.2]; omega)
      have hsu := fewL_succ ss (i := i) (by rw [HX.out.2]; omega)
      have hml := fewL_len ss (i := i) (by rw [HX.out.2]; omega)
      generalize tV ss i = s at *
      have hsz := hI.2.size
      have HM := Lib.hid (And.intro hI (And.intro hsu hml))
      have HSH := Lib.hid (short20 s wr)
      subst hAe
      clear hI hsu hml
      have q1 : (i : Int) < (n : Int) := by omega
      have q2 : (0 : Int) ≤ (i : Int) := by omega
      have q3 : (i : Int) < 10 := by omega
      go_wp2_with fail
      (with_reducible refine HSH.out.mono ?_)
      rintro e w2 ⟨rfl, rfl⟩
      obtain ⟨t, ht⟩ : ∃ t, shV s 20 = t := ⟨_, rfl⟩
      rw [ht] at HM ⊢
      clear HSH ht hcb
      go_wp2_with (first
        | (at_builtin
           refine wpList_append_strs rfl (.tmp 15) (.tmp 21) rfl w.heap.size _ _ _ rfl (HM.out.1.alloc _).1 (some ⟨_, 0, none⟩) 1 1 [t] rfl rfl ?c1 (by simp) ?c2 ?c3 ?_))
      case c1 => exact strs_one _ _
      case c2 => rw [HM.out.2.2]; omega
      case c3 => first | omega | (simp; omega)
      intro v' w5 hown hgrow _
      have hI5 := (HM.out.1.alloc _).app (l' := fewL ss i ++ [t]) (by simpa using hown) hgrow
      have HX5 := Lib.hid hI5
      clear hown hgrow hI5
      go_wp2
      go_roundw
      case rel => exact ⟨i + 1, by omega, by go_num, by rw [HM.out.2.1]; exact HX5.out⟩
      case measure => simp [intOf]; omega
    · obtain rfl : i = m := by omega
      have HF := Lib.hid hI
      clear hI
      by_cases hn : i < n
      · have q1 : (i : Int) < (n : Int) := by omega
        have q3 : ¬ (i : Int) < 10 := by have := hm3 hn; omega
        go_wp2
        go_ret
        exact ⟨_, rfl, HF.out⟩
      · have q1 : ¬ (i : Int) < (n : Int) := by omega
        go_wp2
        go_ret
        exact ⟨_, rfl, HF.out⟩

end Go.Proofs.YtpnjccomngdblaaGreat
end

section
/- The contracts of withSymbols, and of the document's Row. -/
set_option maxRecDepth 100000
namespace Go.Proofs.YtpnjccomngdblaaGreat
open Go.RowKit
open M
attribute [local go_sem ↓] Go.wp_at_zero Go.wp_at_succ

theorem str_all {w : World} {a : Option Addr} {ss : List ByteArray} (h : StrsAt w a ss) (h0 : 0 < ss.length) : ∃ b off, a = some ⟨b, off, none⟩ ∧ b < w.heap.size ∧ ∀ j, j < ss.length → ∀ u, Below w.heap.size w u → u.cell? ⟨b, off + j, none⟩ = some (.string (tV ss j)) := by
  rcases h with rfl | ⟨b, off, h1, h2, h3⟩
  · exact absurd h0 (by simp)
  · exact ⟨b, off, h1, h2, fun j hj u hu => by rw [hu.cell (p := ⟨b, off + j, none⟩) h2]; exact h3 j hj⟩
theorem byte_at (s : ByteArray) {k : Nat} (h : k < s.size) : ((s[k]'h).toNat : Int) + 1 = (sy s).getD k 0 := by
  rw [sy_at s h]
  have : s[k]'h = s.data.toList.getD k 0 := by
    have h2 : k < s.data.toList.length := by simpa using h
    rw [List.getD_eq_getElem?_getD, List.getElem?_eq_getElem h2, Option.getD_some]
    rfl
  rw [this]
theorem sy_take_succ (s : ByteArray) {k : Nat} (h : k < s.size) : (sy s).take (k + 1) = (sy s).take k ++ [(sy s).getD k 0] := by
  rw [List.take_add_one, List.getElem?_eq_getElem (by rw [sy_len]; exact h), List.getD_eq_getElem?_getD, List.getElem?_eq_getElem (by rw [sy_len]; exact h)]
  rfl
theorem sy_take_len (s : ByteArray) {k : Nat} (h : k ≤ s.size) : ((sy s).take k).length = k := by rw [List.length_take, sy_len]; omega
theorem sy_take_all (s : ByteArray) : (sy s).take s.size = sy s := by rw [← sy_len, List.take_length]
theorem byte_fit (s : ByteArray) {k : Nat} (h : k < s.size) : wrap64 (wrap64 ((s[k]'h).toNat : Int) + 1) = (sy s).getD k 0 := by
  rw [← byte_at s h]
  have := (s[k]'h).toNat_lt
  obtain ⟨x, hx⟩ : ∃ x, (s[k]'h).toNat = x := ⟨_, rfl⟩
  rw [hx] at this ⊢
  unfold wrap64
  omega

/-- What is owned behind a call that only writes behind a row, or lays it anew. -/
structure GW (u : World) (v : Value) (base : Nat) (v' : Value) (l' : List Int) (u' : World) : Prop where
  own : u'.ownsRow base 3 1 v' l'.length (l'.map (Value.int .i64))
  kp : Kp (fun k => v.ownBlock = some k) u u'
  nw : v'.ownBlock = v.ownBlock ∨ ∀ k, v'.ownBlock = some k → u.heap.size ≤ k
theorem GW.start {u : World} {v : Value} {base : Nat} {l : List Int} (h : u.ownsRow base 3 1 v l.length (l.map (Value.int .i64))) : GW u v base v l u := ⟨h, Kp.refl _ u, .inl rfl⟩
theorem GW.alloc {u u' : World} {v v' : Value} {base : Nat} {l' : List Int} (h : GW u v base v' l' u') (o : Obj) : GW u v base v' l' (u'.alloc o) :=
  ⟨own_kept h.own ((Below.refl _ _).alloc (Nat.le_refl _) _), h.kp.alloc o, h.nw⟩
theorem GW.app {u u' u'' : World} {v v' v'' : Value} {base : Nat} {l' l'' : List Int} (h : GW u v base v' l' u') (hown : u''.ownsRow base 3 1 v'' l''.length (l''.map (Value.int .i64))) (hg : u'.grownBy u'' v'.ownBlock) (hn : v''.ownBlock = v'.ownBlock ∨ v''.ownBlock = some u'.heap.size) : GW u v base v'' l'' u'' := by
  refine ⟨hown, h.kp.grown hg (fun k hk hlt => ?_), ?_⟩
  · rcases h.nw with e | e
    · rw [← e]; exact hk
    · have := e k hk; omega
  · rcases hn with e | e
    · rw [e]; exact h.nw
    · right
      intro k hk
      rw [e] at hk
      obtain rfl := Option.some.inj hk
      exact h.kp.size

set_option maxHeartbeats 2000000 in
theorem with_any (v : Value) (l : List Int) (s : ByteArray) (base : Nat) (w : World) (hI : w.ownsRow base 3 1 v l.length (l.map (Value.int .i64))) (hbase : base ≤ w.heap.size) (hl : l.length ≤ 1000000) (hs : s.size ≤ 1000000) :
    Calls Tryz.prog 35 #[v, .string s] w fun e u => ∃ v', e = .returned v' ∧ GW w v base v' (l ++ sy s) u := by
  have HI := Lib.hid (And.intro (GW.start hI) hbase)
  have HL := Lib.hid hl
  clear hI hl hbase
  go_enter Tryz.func35, Tryz.ntmps35
  go_wp2
  go_loopw [0, 5, 8] (fun v0 _ v8 wr => ∃ k : Nat, k ≤ s.size ∧ v8 = .int .i64 (k : Int) ∧ GW w v base v0 (l ++ (sy s).take k) wr) (fun _ _ v8 _ => s.size - (intOf v8).toNat)
  case atStart => exact ⟨0, Nat.zero_le _, rfl, by rw [List.take_zero, List.append_nil]; exact HI.out.1⟩
  case round =>
    obtain ⟨k, hk, rfl, hG⟩ := hrel
    by_cases hlt : k < s.size
    · have hx := byte_fit s hlt
      have hsu := sy_take_succ s hlt
      have hml : (l ++ (sy s).take k).length = l.length + k := by rw [List.length_append, sy_take_len s hk]
      have hsz := hG.kp.size
      obtain ⟨x, hxe⟩ : ∃ x, (sy s).getD k 0 = x := ⟨_, rfl⟩
      rw [hxe] at hx hsu
      have HM := Lib.hid (And.intro hG (And.intro hsu (And.intro hml HI.out.2)))
      have q1 : (k : Int) < (s.size : Int) := by omega
      have q2 : (0 : Int) ≤ (k : Int) := by omega
      clear hG hsu hml hxe
      go_wp2_with (first
        | (at_builtin
           refine wpList_append_nums rfl (.tmp 11) (.tmp 17) rfl base _ _ _ rfl (HM.out.1.alloc _).own (some ⟨_, 0, none⟩) 1 1 [x] rfl rfl ?c1 (by simp) ?c2 ?c3 ?_))
      case c1 => exact nums_one _ _
      case c2 => rw [HM.out.2.2.1]; have := HL.out; omega
      case c3 => have := HM.out.2.2.2; first | omega | (simp; omega)
      intro v' w5 hown hgrow hnb
      have hI5 := (HM.out.1.alloc _).app (l'' := (l ++ (sy s).take k) ++ [x]) (by simpa [Nat.add_assoc] using hown) hgrow (by simpa using hnb)
      rw [List.append_assoc, ← HM.out.2.1] at hI5
      have HX5 := Lib.hid hI5
      clear hown hgrow hI5 hnb
      go_wp2
      go_roundw
      case rel => exact ⟨k + 1, by omega, by go_num, HX5.out⟩
      case measure => simp [intOf]; omega
    · obtain rfl : k = s.size := by omega
      rw [sy_take_all] at hG
      have HF := Lib.hid hG
      clear hG
      go_wp2
      go_ret
      exact ⟨_, rfl, HF.out⟩

end Go.Proofs.YtpnjccomngdblaaGreat
end

section
/- The contracts of the document's answers: Row, Count, Ids, Equal, Part, At. -/
set_option maxRecDepth 100000
namespace Go.Proofs.YtpnjccomngdblaaGreat
open Go.RowKit
open M
attribute [local go_sem ↓] Go.wp_at_zero Go.wp_at_succ

theorem len_bg (ss : List ByteArray) : ∀ n, n ≤ bg ss n := by
  intro n
  induction n with
  | zero => exact Nat.zero_le _
  | succ n ih => rw [bg_up]; omega

set_option maxHeartbeats 4000000 in
theorem rrow_any (A : Option Addr) (n c : Nat) (ss : List ByteArray) (w : World) (hA : StrsAt w A ss) (hl : ss.length = n) (hB : bg ss n ≤ 100000) :
    Calls Tryz.prog 21 #[.slice A n c] w fun e u => ∃ v, e = .returned v ∧ OwnI w v (rowV ss) u := by
  have hn := len_bg ss n
  have hn2 : n ≤ 100000 := by omega
  have HX := Lib.hid (And.intro hA (And.intro hl hB))
  clear hA hl hB hn
  go_enter Tryz.func21, Tryz.ntmps21
  go_wp2
  go_loopw [3, 4, 5] (fun v3 v4 _ wr => ∃ i : Nat, i ≤ n ∧ v4 = .int .i64 (i : Int) ∧ OwnI w v3 (rowV (ss.take i)) wr) (fun _ v4 _ _ => n - (intOf v4).toNat)
  case atStart => exact ⟨0, Nat.zero_le _, rfl, World.ownsRow_nil _ _ _ _, Below.refl _ _⟩
  case round =>
    obtain ⟨i, hin, rfl, hI⟩ := hrel
    by_cases hlt : i < n
    · obtain ⟨bb, off, hAe, hbl, hcs⟩ := str_all HX.out.1 (by rw [HX.out.2.1]; omega)
      have hc := hcs i (by rw [HX.out.2.1]; omega)
      have hrl := row_take_len ss i (by rw [HX.out.2.1]; omega)
      have hsz := bg_lt ss hlt
      have hB := HX.out.2.2
      have hrt := rowV_take ss (i := i) (by rw [HX.out.2.1]; omega)
      obtain ⟨R, hR⟩ : ∃ R, rowV (ss.take i) = R := ⟨_, rfl⟩
      rw [hR] at hI hrl hrt
      obtain ⟨s, hs⟩ : ∃ s, tV ss i = s := ⟨_, rfl⟩
      rw [hs] at hc hsz hrt
      have hRl : R.length ≤ 100000 := by omega
      have hss : s.size ≤ 100000 := by omega
      subst hAe
      clear hR hs hrl hsz hB hcs
      obtain ⟨w1, rfl⟩ : ∃ w1, w1 = wr := ⟨_, rfl⟩
      have hb1 := hI.2
      have HI := Lib.hid (And.intro hI (And.intro hrt (And.intro hc hRl)))
      have q1 : (i : Int) < (n : Int) := by omega
      have q2 : (0 : Int) ≤ (i : Int) := by omega
      clear hI hrt hc hRl
      go_wp2
      go_loopw [3, 5] (fun v3 v5 wq => ∃ k : Nat, k ≤ s.size ∧ v5 = .int .i64 (k : Int) ∧ OwnI w v3 (R ++ (sy s).take k) wq) (fun _ v5 _ => s.size - (intOf v5).toNat)
      case atStart => exact ⟨0, Nat.zero_le _, rfl, by rw [List.take_zero, List.append_nil]; exact HI.out.1⟩
      case round =>
        obtain ⟨k, hk, rfl, hG⟩ := hrel
        have c2 := HI.out.2.2.1 wr hG.2
        have hml : (R ++ (sy s).take k).length = R.length + k := by rw [List.length_append, sy_take_len s hk]
        have hgs := hG.2.size
        by_cases hlk : k < s.size
        · have hx := byte_fit s hlk
          have hsu := sy_take_succ s hlk
          obtain ⟨x, hxe⟩ : ∃ x, (sy s).getD k 0 = x := ⟨_, rfl⟩
          rw [hxe] at hx hsu
          have HM := Lib.hid (And.intro hG (And.intro hsu hml))
          have q3 : (k : Int) < (s.size : Int) := by omega
          have q4 : (0 : Int) ≤ (k : Int) := by omega
          clear hG hsu hml hxe
          go_wp2_with (first
            | (at_builtin
               refine wpList_append_nums rfl (.tmp 21) (.tmp 30) rfl w.heap.size _ _ _ rfl (HM.out.1.alloc _).1 (some ⟨_, 0, none⟩) 1 1 [x] rfl rfl ?c1 (by simp) ?c2 ?c3 ?_))
          case c1 => exact nums_one _ _
          case c2 => rw [HM.out.2.2]; have := HI.out.2.2.2; omega
          case c3 => first | omega | (simp; omega)
          intro v' w5 hown hgrow _
          have hI5 := (HM.out.1.alloc _).app (l' := (R ++ (sy s).take k) ++ [x]) (by simpa [Nat.add_assoc] using hown) hgrow
          rw [List.append_assoc, ← HM.out.2.1] at hI5
          have HX5 := Lib.hid hI5
          clear hown hgrow hI5
          go_wp2
          go_roundw
          case rel => exact ⟨k + 1, by omega, by go_num, HX5.out⟩
          case measure => simp [intOf]; omega
        · obtain rfl : k = s.size := by omega
          rw [sy_take_all] at hG hml
          have HM := Lib.hid (And.intro hG hml)
          have q3 : ¬ (s.size : Int) < (s.size : Int) := by omega
          clear hG hml
          go_wp2_with (first
            | (at_builtin
               refine wpList_append_nums rfl (.tmp 32) (.tmp 33) rfl w.heap.size _ _ _ rfl (HM.out.1.alloc _).1 (some ⟨_, 0, none⟩) 1 1 [(0 : Int)] rfl rfl ?c1 (by simp) ?c2 ?c3 ?_))
          case c1 => exact nums_one _ _
          case c2 => have := HI.out.2.2.2; have := HM.out.2; rw [sy_len] at *; simp [sy_len] at *; omega
          case c3 => first | omega | (simp; omega)
          intro v' w5 hown hgrow _
          have hI5 := (HM.out.1.alloc _).app (l' := (R ++ sy s) ++ [(0 : Int)]) (by simpa [Nat.add_assoc] using hown) hgrow
          rw [List.append_assoc, ← HI.out.2.1] at hI5
          have HX5 := Lib.hid hI5
          clear hown hgrow hI5
          go_wp2
          go_roundw
          case rel => exact ⟨i + 1, by omega, by go_num, HX5.out⟩
          case measure => simp [intOf]; omega
    · obtain rfl : i = n := by omega
      rw [← HX.out.2.1, List.take_length] at hI
      have HF := Lib.hid hI
      have q1 : ¬ (i : Int) < (i : Int) := by omega
      clear hI
      go_wp2
      go_ret
      exact ⟨_, rfl, HF.out⟩

/-! ## Count -/
def ckN (s p : ByteArray) (k : Nat) : Nat := (List.range k).countP (inT s p)
theorem ckN_succ (s p : ByteArray) (k : Nat) : ckN s p (k + 1) = ckN s p k + if inT s p k = true then 1 else 0 := by
  unfold ckN
  rw [List.range_succ, List.countP_append, List.countP_singleton]
theorem ckN_le (s p : ByteArray) (k : Nat) : ckN s p k ≤ k := by
  have := List.countP_le_length (p := inT s p) (l := List.range k)
  rwa [List.length_range] at this
theorem cn_le (ss : List ByteArray) (p : ByteArray) : ∀ i, cnV ss p i ≤ bg ss i := by
  intro i
  induction i with
  | zero => exact Nat.le_refl _
  | succ i ih =>
    have := ckN_le (tV ss i) p ((tV ss i).size + 1)
    rw [bg_up]
    show cnV ss p i + ckN (tV ss i) p ((tV ss i).size + 1) ≤ _
    omega
set_option maxHeartbeats 4000000 in
theorem rcount_any (A : Option Addr) (n c : Nat) (ss : List ByteArray) (p : ByteArray) (w : World) (hA : StrsAt w A ss) (hl : ss.length = n) (hB : bg ss n ≤ 100000) (hp : p.size ≤ 100000) :
    Calls Tryz.prog 31 #[.slice A n c, .string p] w fun e u => e = .returned (.int .i64 (cnV ss p n : Nat)) ∧ u = w := by
  have hn := len_bg ss n
  have hn2 : n ≤ 100000 := by omega
  have HX := Lib.hid (And.intro hA (And.intro hl (And.intro hB hp)))
  clear hA hl hB hn hp
  go_enter Tryz.func31, Tryz.ntmps31
  go_wp2
  go_loopw [5, 6, 7, 8] (fun v5 v6 _ _ wr => ∃ i : Nat, i ≤ n ∧ v6 = .int .i64 (i : Int) ∧ v5 = .int .i64 (cnV ss p i : Nat) ∧ wr = w) (fun _ v6 _ _ _ => n - (intOf v6).toNat)
  case atStart => exact ⟨0, Nat.zero_le _, rfl, rfl, rfl⟩
  case round =>
    obtain ⟨i, hin, rfl, rfl, rfl⟩ := hrel
    by_cases hlt : i < n
    · obtain ⟨bb, off, hAe, hbl, hcs⟩ := str_all HX.out.1 (by rw [HX.out.2.1]; omega)
      have hc := hcs i (by rw [HX.out.2.1]; omega) wr (Below.refl _ _)
      have hsz := bg_lt ss hlt
      have hB := HX.out.2.2.1
      have hcl := cn_le ss p i
      have hcu : cnV ss p (i + 1) = cnV ss p i + ckN (tV ss i) p ((tV ss i).size + 1) := rfl
      obtain ⟨s, hs⟩ : ∃ s, tV ss i = s := ⟨_, rfl⟩
      rw [hs] at hc hsz hcu
      obtain ⟨N, hN⟩ : ∃ N, cnV ss p i = N := ⟨_, rfl⟩
      rw [hN] at hcl hcu ⊢
      have hss : s.size ≤ 100000 := by omega
      have hNl : N ≤ 100000 := by omega
      have hst := fun (k : Nat) (hk : k ≤ s.size) => stands_any s p k wr hk (by omega) (by have := HX.out.2.2.2; omega)
      have HI := Lib.hid (And.intro hcu hst)
      subst hAe
      clear hN hs hsz hB hcs hcl hcu hst
      obtain ⟨w1, rfl⟩ : ∃ w1, w1 = wr := ⟨_, rfl⟩
      have q1 : (i : Int) < (n : Int) := by omega
      have q2 : (0 : Int) ≤ (i : Int) := by omega
      go_wp2
      go_loopw [5, 7, 8] (fun v5 v7 _ wq => ∃ k : Nat, k ≤ s.size + 1 ∧ v7 = .int .i64 (k : Int) ∧ v5 = .int .i64 ((N + ckN s p k : Nat) : Int) ∧ wq = w1) (fun _ v7 _ _ => s.size + 1 - (intOf v7).toNat)
      case atStart => exact ⟨0, Nat.zero_le _, rfl, rfl, rfl⟩
      case round =>
        obtain ⟨k, hk, rfl, rfl, rfl⟩ := hrel
        have hkl := ckN_le s p k
        by_cases hlk : k ≤ s.size
        · have hsu := ckN_succ s p k
          have hst := HI.out.2 k hlk
          obtain ⟨g, hg⟩ : ∃ g, inT s p k = g := ⟨_, rfl⟩
          obtain ⟨M, hM⟩ : ∃ M, ckN s p k = M := ⟨_, rfl⟩
          rw [hg] at hst hsu
          rw [hM] at hsu hkl ⊢
          have HS := Lib.hid (And.intro hst hsu)
          have q3 : (k : Int) ≤ (s.size : Int) := by omega
          have q5 : IntKind.i64.wrap (((N + M : Nat) : Int) + 1) = ((N + (M + 1) : Nat) : Int) := by rw [show ((N + (M + 1) : Nat) : Int) = ((N + M : Nat) : Int) + 1 by omega]; exact IntWalk.i64_in _ (by omega)
          clear hg hM hst hsu
          go_wp2_with fail
          (with_reducible refine HS.out.1.mono ?_)
          rintro e u ⟨rfl, rfl⟩
          cases g with
          | true =>
            go_wp2
            go_roundw
            case rel => exact ⟨k + 1, by omega, by go_num, by rw [HS.out.2]; simp only [if_true]; go_num, by first | rfl | trivial⟩
            case measure => simp [intOf]; omega
          | false =>
            go_wp2
            go_roundw
            case rel => exact ⟨k + 1, by omega, by go_num, by rw [HS.out.2]; simp, by first | rfl | trivial⟩
            case measure => simp [intOf]; omega
        · obtain rfl : k = s.size + 1 := by omega
          have q3 : ¬ ((s.size + 1 : Nat) : Int) ≤ (s.size : Int) := by omega
          have hcu := HI.out.1
          rw [← hcu]
          clear hcu
          go_wp2
          go_roundw
          case rel => exact ⟨i + 1, by omega, by go_num, rfl, by first | rfl | trivial⟩
          case measure => simp [intOf]; omega
    · obtain rfl : i = n := by omega
      have q1 : ¬ (i : Int) < (i : Int) := by omega
      go_wp2
      go_ret
      exact ⟨rfl, rfl⟩

end Go.Proofs.YtpnjccomngdblaaGreat
end

section
/- The contracts of the document's answers: Ids, Equal, Part, At. -/
set_option maxRecDepth 100000
namespace Go.Proofs.YtpnjccomngdblaaGreat
open Go.RowKit
open M
attribute [local go_sem ↓] Go.wp_at_zero Go.wp_at_succ

def hasN (s p : ByteArray) (k : Nat) : Bool := (List.range k).any (inT s p)
theorem hasN_succ (s p : ByteArray) (k : Nat) : hasN s p (k + 1) = (hasN s p k || inT s p k) := by
  unfold hasN
  rw [List.range_succ, List.any_append]
  simp
def idN (ss : List ByteArray) (p : ByteArray) (i : Nat) : List Int := ((List.range i).filter fun j => hasT (tV ss j) p).map Int.ofNat
theorem idN_succ (ss : List ByteArray) (p : ByteArray) (i : Nat) : idN ss p (i + 1) = idN ss p i ++ if hasN (tV ss i) p ((tV ss i).size + 1) = true then [(i : Int)] else [] := by
  unfold idN
  rw [List.range_succ, List.filter_append, List.map_append]
  congr 1
  show _ = if hasT (tV ss i) p = true then [(i : Int)] else []
  by_cases h : hasT (tV ss i) p = true <;> simp [h]
theorem idN_le (ss : List ByteArray) (p : ByteArray) (i : Nat) : (idN ss p i).length ≤ i := by
  unfold idN
  rw [List.length_map]
  refine Nat.le_trans (List.length_filter_le _ _) ?_
  simp
def eqN' (ss : List ByteArray) (p : ByteArray) (i : Nat) : List Int := ((List.range i).filter fun j => decide (tV ss j = p)).map Int.ofNat
theorem eqNV_succ (ss : List ByteArray) (p : ByteArray) (i : Nat) : eqN' ss p (i + 1) = eqN' ss p i ++ if tV ss i = p then [(i : Int)] else [] := by
  unfold eqN'
  rw [List.range_succ, List.filter_append, List.map_append]
  congr 1
  by_cases h : tV ss i = p <;> simp [h]
theorem eqNV_le (ss : List ByteArray) (p : ByteArray) (i : Nat) : (eqN' ss p i).length ≤ i := by
  unfold eqN'
  rw [List.length_map]
  refine Nat.le_trans (List.length_filter_le _ _) ?_
  simp

set_option maxHeartbeats 4000000 in
theorem rids_any (A : Option Addr) (n c : Nat) (ss : List ByteArray) (p : ByteArray) (w : World) (hA : StrsAt w A ss) (hl : ss.length = n) (hB : bg ss n ≤ 100000) (hp : p.size ≤ 100000) :
    Calls Tryz.prog 27 #[.slice A n c, .string p] w fun e u => ∃ v, e = .returned v ∧ OwnI w v (idsV ss p) u := by
  have hn := len_bg ss n
  have hn2 : n ≤ 100000 := by omega
  have HX := Lib.hid (And.intro hA (And.intro hl (And.intro hB hp)))
  clear hA hl hB hn hp
  go_enter Tryz.func27, Tryz.ntmps27
  go_wp2
  go_loopw [5, 6, 7, 8, 9] (fun v5 v6 _ _ _ wr => ∃ i : Nat, i ≤ n ∧ v6 = .int .i64 (i : Int) ∧ OwnI w v5 (idN ss p i) wr) (fun _ v6 _ _ _ _ => n - (intOf v6).toNat)
  case atStart => exact ⟨0, Nat.zero_le _, rfl, World.ownsRow_nil _ _ _ _, Below.refl _ _⟩
  case round =>
    obtain ⟨i, hin, rfl, hI⟩ := hrel
    by_cases hlt : i < n
    · obtain ⟨bb, off, hAe, hbl, hcs⟩ := str_all HX.out.1 (by rw [HX.out.2.1]; omega)
      have hc := hcs i (by rw [HX.out.2.1]; omega) wr hI.2
      have hsz := bg_lt ss hlt
      have hB := HX.out.2.2.1
      have hsu := idN_succ ss p i
      have hml := idN_le ss p i
      have hgs := hI.2.size
      obtain ⟨s, hs⟩ : ∃ s, tV ss i = s := ⟨_, rfl⟩
      rw [hs] at hc hsz hsu
      have hss : s.size ≤ 100000 := by omega
      have hst := fun (k : Nat) (hk : k ≤ s.size) => stands_any s p k wr hk (by omega) (by have := HX.out.2.2.2; omega)
      have HI := Lib.hid (And.intro hsu (And.intro hst (And.intro hI hml)))
      subst hAe
      clear hs hsz hB hcs hst hsu hI hml
      obtain ⟨w1, rfl⟩ : ∃ w1, w1 = wr := ⟨_, rfl⟩
      have q1 : (i : Int) < (n : Int) := by omega
      have q2 : (0 : Int) ≤ (i : Int) := by omega
      go_wp2
      go_loopw [7, 8, 9] (fun v7 v8 _ wq => ∃ k : Nat, k ≤ s.size + 1 ∧ v8 = .int .i64 (k : Int) ∧ v7 = .bool (hasN s p k) ∧ wq = w1) (fun _ v8 _ _ => s.size + 1 - (intOf v8).toNat)
      case atStart => exact ⟨0, Nat.zero_le _, rfl, rfl, rfl⟩
      case round =>
        obtain ⟨k, hk, rfl, rfl, rfl⟩ := hrel
        by_cases hlk : k ≤ s.size
        · have hsu := hasN_succ s p k
          have hst := HI.out.2.1 k hlk
          obtain ⟨g, hg⟩ : ∃ g, inT s p k = g := ⟨_, rfl⟩
          obtain ⟨h, hh⟩ : ∃ h, hasN s p k = h := ⟨_, rfl⟩
          rw [hg] at hst hsu
          rw [hh] at hsu ⊢
          have HS := Lib.hid (And.intro hst hsu)
          have q3 : (k : Int) ≤ (s.size : Int) := by omega
          clear hg hh hst hsu
          go_wp2_with fail
          (with_reducible refine HS.out.1.mono ?_)
          rintro e u ⟨rfl, rfl⟩
          cases h with
          | true =>
            go_wp2
            go_roundw
            case rel => exact ⟨k + 1, by omega, by go_num, by rw [HS.out.2]; rfl, by first | rfl | trivial⟩
            case measure => simp [intOf]; omega
          | false =>
            go_wp2
            go_roundw
            case rel => exact ⟨k + 1, by omega, by go_num, by rw [HS.out.2]; rfl, by first | rfl | trivial⟩
            case measure => simp [intOf]; omega
        · obtain rfl : k = s.size + 1 := by omega
          have q3 : ¬ ((s.size + 1 : Nat) : Int) ≤ (s.size : Int) := by omega
          obtain ⟨h, hh⟩ : ∃ h, hasN s p (s.size + 1) = h := ⟨_, rfl⟩
          have hsu := HI.out.1
          rw [hh] at hsu
          rw [hh]
          have HS := Lib.hid hsu
          clear hsu hh
          cases h with
          | true =>
            go_wp2_with (first
              | (at_builtin
                 refine wpList_append_nums rfl (.tmp 37) (.tmp 39) rfl w.heap.size _ _ _ rfl (HI.out.2.2.1.alloc _).1 (some ⟨_, 0, none⟩) 1 1 [(i : Int)] rfl rfl ?c1 (by simp) ?c2 ?c3 ?_))
            case c1 => exact nums_one _ _
            case c2 => have := HI.out.2.2.2; omega
            case c3 => first | omega | (simp; omega)
            intro v' w5 hown hgrow _
            have hI5 := (HI.out.2.2.1.alloc _).app (l' := idN ss p i ++ [(i : Int)]) (by simpa [Nat.add_assoc] using hown) hgrow
            have HX5 := Lib.hid hI5
            clear hown hgrow hI5
            go_wp2
            go_roundw
            case rel => exact ⟨i + 1, by omega, by go_num, by rw [HS.out]; simp only [if_true]; exact HX5.out⟩
            case measure => simp [intOf]; omega
          | false =>
            go_wp2
            go_roundw
            case rel => exact ⟨i + 1, by omega, by go_num, by rw [HS.out, if_neg (by simp), List.append_nil]; exact HI.out.2.2.1⟩
            case measure => simp [intOf]; omega
    · obtain rfl : i = n := by omega
      have e : idN ss p i = idsV ss p := by unfold idN idsV; rw [HX.out.2.1]
      rw [e] at hI
      have HF := Lib.hid hI
      have q1 : ¬ (i : Int) < (i : Int) := by omega
      clear hI e
      go_wp2
      go_ret
      exact ⟨_, rfl, HF.out⟩

set_option maxHeartbeats 4000000 in
theorem requal_any (A : Option Addr) (n c : Nat) (ss : List ByteArray) (p : ByteArray) (w : World) (hA : StrsAt w A ss) (hl : ss.length = n) (hn2 : n ≤ 100000) :
    Calls Tryz.prog 29 #[.slice A n c, .string p] w fun e u => ∃ v, e = .returned v ∧ OwnI w v (eqV ss p) u := by
  have HX := Lib.hid (And.intro hA hl)
  clear hA hl
  go_enter Tryz.func29, Tryz.ntmps29
  go_wp2
  go_loopw [5, 6] (fun v5 v6 wr => ∃ i : Nat, i ≤ n ∧ v6 = .int .i64 (i : Int) ∧ OwnI w v5 (eqN' ss p i) wr) (fun _ v6 _ => n - (intOf v6).toNat)
  case atStart => exact ⟨0, Nat.zero_le _, rfl, World.ownsRow_nil _ _ _ _, Below.refl _ _⟩
  case round =>
    obtain ⟨i, hin, rfl, hI⟩ := hrel
    by_cases hlt : i < n
    · obtain ⟨bb, off, hAe, hbl, hcs⟩ := str_all HX.out.1 (by rw [HX.out.2]; omega)
      have hc := hcs i (by rw [HX.out.2]; omega) wr hI.2
      have hsu := eqNV_succ ss p i
      have hml := eqNV_le ss p i
      have hgs := hI.2.size
      obtain ⟨s, hs⟩ : ∃ s, tV ss i = s := ⟨_, rfl⟩
      rw [hs] at hc hsu
      have HI := Lib.hid (And.intro hsu (And.intro hI hml))
      subst hAe
      have q1 : (i : Int) < (n : Int) := by omega
      have q2 : (0 : Int) ≤ (i : Int) := by omega
      clear hs hcs hsu hI hml
      by_cases hsp : s = p
      · have hq : (s.toList == p.toList) = true := by rw [eq_list]; simpa using hsp
        have HE := Lib.hid hsp
        clear hsp
        go_wp2_with (first
          | (at_builtin
             refine wpList_append_nums rfl (.tmp 19) (.tmp 21) rfl w.heap.size _ _ _ rfl (HI.out.2.1.alloc _).1 (some ⟨_, 0, none⟩) 1 1 [(i : Int)] rfl rfl ?c1 (by simp) ?c2 ?c3 ?_))
        case c1 => exact nums_one _ _
        case c2 => have := HI.out.2.2; omega
        case c3 => first | omega | (simp; omega)
        intro v' w5 hown hgrow _
        have hI5 := (HI.out.2.1.alloc _).app (l' := eqN' ss p i ++ [(i : Int)]) (by simpa [Nat.add_assoc] using hown) hgrow
        have HX5 := Lib.hid hI5
        clear hown hgrow hI5
        go_wp2
        go_roundw
        case rel => exact ⟨i + 1, by omega, by go_num, by rw [HI.out.1, if_pos HE.out]; exact HX5.out⟩
        case measure => simp [intOf]; omega
      · have hq : (s.toList == p.toList) = false := by rw [eq_list]; simpa using hsp
        have HE := Lib.hid hsp
        clear hsp
        go_wp2
        go_roundw
        case rel => exact ⟨i + 1, by omega, by go_num, by rw [HI.out.1, if_neg HE.out, List.append_nil]; exact HI.out.2.1⟩
        case measure => simp [intOf]; omega
    · obtain rfl : i = n := by omega
      have e : eqN' ss p i = eqV ss p := by unfold eqN' eqV; rw [HX.out.2]
      rw [e] at hI
      have HF := Lib.hid hI
      have q1 : ¬ (i : Int) < (i : Int) := by omega
      clear hI e
      go_wp2
      go_ret
      exact ⟨_, rfl, HF.out⟩

/-! ## Part -/
def prV (s : ByteArray) (f n : Int) : ByteArray := s.extract (lo s.size f) (lo s.size f + min n.toNat (s.size - lo s.size f))
theorem ex_none (s : ByteArray) (a : Nat) (h : a ≤ s.size) : s.extract a a = ⟨#[]⟩ := ba_ext (by rw [ba_ex_size s h]; simp [ByteArray.size]) fun j hj => by simp [ByteArray.size] at hj
theorem ex_ex (s : ByteArray) (a m : Nat) (h : a + m ≤ s.size) : (s.extract a s.size).extract 0 m = s.extract a (a + m) := by
  have h1 := ba_ex_size s (a := a) (b := s.size) (Nat.le_refl _)
  refine ba_ext (by rw [ba_ex_size _ (by omega), ba_ex_size s h]; omega) fun j hj => ?_
  rw [ba_ex_size s h] at hj
  rw [ba_ex_at _ (by omega) (by omega), ba_ex_at s (by omega) (Nat.le_refl _), ba_ex_at s (by omega) h, Nat.zero_add]
theorem rpart_out (s : ByteArray) (f n : Int) (w : World) (h : (s.size : Int) < f ∨ n < 1) :
    Calls Tryz.prog 15 #[.string s, .int .i64 f, .int .i64 n] w fun e u => e = .returned (.string (prV s f n)) ∧ u = w := by
  have e : prV s f n = ⟨#[]⟩ := by
    unfold prV
    have hlo := lo_le s.size f
    have : min n.toNat (s.size - lo s.size f) = 0 := by
      rcases h with h | h
      · have : lo s.size f = s.size := by unfold lo; omega
        omega
      · omega
    rw [this, Nat.add_zero]
    exact ex_none s _ hlo
  have HE := Lib.hid e
  clear e
  by_cases h0 : f < 0
  · have q1 : n < 1 := by omega
    have q2 : ¬ (s.size : Int) < 0 := by omega
    clear h
    go_enter Tryz.func15, Tryz.ntmps15
    go_wp2
    go_ret
    rw [HE.out]
    exact ⟨rfl, rfl⟩
  · by_cases h1 : (s.size : Int) < f
    · clear h
      go_enter Tryz.func15, Tryz.ntmps15
      go_wp2
      go_ret
      rw [HE.out]
      exact ⟨rfl, rfl⟩
    · have q1 : n < 1 := by omega
      clear h
      go_enter Tryz.func15, Tryz.ntmps15
      go_wp2
      go_ret
      rw [HE.out]
      exact ⟨rfl, rfl⟩
theorem rpart_nat (s : ByteArray) (f : Nat) (n : Int) (w : World) (h : f ≤ s.size) (h1 : 1 ≤ n) :
    Calls Tryz.prog 15 #[.string s, .int .i64 (f : Int), .int .i64 n] w fun e u => e = .returned (.string (s.extract f (f + min n.toNat (s.size - f)))) ∧ u = w := by
  have q0 : ¬ (f : Int) < 0 := by omega
  have q1 : ¬ (s.size : Int) < (f : Int) := by omega
  have q2 : ¬ n < 1 := by omega
  have hd := ba_ex_size s (a := f) (b := s.size) (Nat.le_refl _)
  by_cases h2 : n < ((s.size - f : Nat) : Int)
  · obtain ⟨m, rfl⟩ : ∃ m : Nat, n = (m : Int) := ⟨n.toNat, by omega⟩
    have e := ex_ex s f m (by omega)
    rw [Int.toNat_natCast, Nat.min_eq_left (by omega)]
    have HE := Lib.hid e
    obtain ⟨t, ht⟩ : ∃ t, s.extract f s.size = t := ⟨_, rfl⟩
    rw [ht] at hd HE
    have q3 : (m : Int) < (t.size : Int) := by omega
    have q4 : m ≤ t.size := by omega
    have q5 : (f : Int) ≤ (s.size : Int) := by omega
    have q6 : (m : Int) ≤ (t.size : Int) := by omega
    clear e hd h1 h2
    go_enter Tryz.func15, Tryz.ntmps15
    go_wp2
    go_ret
    rw [← HE.out]
    first | exact ⟨rfl, rfl⟩ | (rw [ht]; exact ⟨rfl, rfl⟩)
  · have e : s.extract f (f + min n.toNat (s.size - f)) = s.extract f s.size := by
      congr 1
      omega
    have HE := Lib.hid e
    obtain ⟨t, ht⟩ : ∃ t, s.extract f s.size = t := ⟨_, rfl⟩
    rw [ht] at hd HE
    have q3 : ¬ n < (t.size : Int) := by omega
    clear e hd h1 h2
    go_enter Tryz.func15, Tryz.ntmps15
    go_wp2
    go_ret
    rw [HE.out]
    first | exact ⟨rfl, rfl⟩ | (rw [ht]; exact ⟨rfl, rfl⟩)

/-! ## At -/
set_option maxHeartbeats 2000000 in
theorem rat_in (A : Option Addr) (n c : Nat) (ss : List ByteArray) (q i0 : Nat) (w : World) (hA : StrsAt w A ss) (hl : ss.length = n) (hi0 : i0 < n) (h1 : bg ss i0 ≤ q) (h2 : q < bg ss (i0 + 1)) (hB : bg ss n ≤ 100000) :
    Calls Tryz.prog 17 #[.slice A n c, .int .i64 (q : Int)] w fun e u => e = .returned (.tuple #[.int .i64 (i0 : Int), .int .i64 ((q - bg ss i0 : Nat) : Int)]) ∧ u = w := by
  have hn := len_bg ss n
  have hqn := bg_mono ss (i := i0 + 1) (j := n) (by omega)
  have HX := Lib.hid (And.intro hA (And.intro hl (And.intro h1 (And.intro h2 hB))))
  have hq2 : q ≤ 100000 := by omega
  have hn2 : n ≤ 100000 := by omega
  have q0 : ¬ (q : Int) < 0 := by omega
  clear hA hl h1 h2 hB hn hqn
  go_enter Tryz.func17, Tryz.ntmps17
  go_wp2
  go_loopw [1, 6] (fun v1 v6 wr => ∃ i : Nat, i ≤ i0 ∧ v6 = .int .i64 (i : Int) ∧ v1 = .int .i64 ((q - bg ss i : Nat) : Int) ∧ wr = w) (fun _ v6 _ => n - (intOf v6).toNat)
  case atStart => exact ⟨0, Nat.zero_le _, rfl, rfl, rfl⟩
  case round =>
    obtain ⟨i, hin, rfl, rfl, rfl⟩ := hrel
    obtain ⟨bb, off, hAe, hbl, hcs⟩ := str_all HX.out.1 (by rw [HX.out.2.1]; omega)
    have hc := hcs i (by rw [HX.out.2.1]; omega) wr (Below.refl _ _)
    obtain ⟨-, -, h1, h2, -⟩ := HX.out
    have hbu := bg_up ss i
    have hbm := bg_mono ss hin
    subst hAe
    have q1 : (i : Int) < (n : Int) := by omega
    have q2 : (0 : Int) ≤ (i : Int) := by omega
    by_cases e : i = i0
    · subst e
      obtain ⟨s, hs⟩ : ∃ s, tV ss i = s := ⟨_, rfl⟩
      rw [hs] at hc hbu
      obtain ⟨d, hd⟩ : ∃ d, q - bg ss i = d := ⟨_, rfl⟩
      rw [hd]
      have q3 : (d : Int) ≤ (s.size : Int) := by omega
      have HD := Lib.hid hd
      clear hcs h1 h2 hbu hbm hs hd
      go_wp2
      go_ret2
      exact ⟨by rw [HD.out]; rfl, rfl⟩
    · have hbm2 := bg_mono ss (i := i + 1) (j := i0) (by omega)
      obtain ⟨s, hs⟩ : ∃ s, tV ss i = s := ⟨_, rfl⟩
      rw [hs] at hc hbu
      obtain ⟨d, hd⟩ : ∃ d, q - bg ss i = d := ⟨_, rfl⟩
      obtain ⟨d2, hd2⟩ : ∃ d2, q - bg ss (i + 1) = d2 := ⟨_, rfl⟩
      rw [hd]
      have q3 : ¬ (d : Int) ≤ (s.size : Int) := by omega
      have q4 : IntKind.i64.wrap ((d : Int) - (s.size : Int)) = (d : Int) - (s.size : Int) := IntWalk.i64_in _ (by omega)
      have q5 : IntKind.i64.wrap ((d : Int) - (s.size : Int) - 1) = (d2 : Int) := by rw [show (d : Int) - (s.size : Int) - 1 = (d2 : Int) by omega]; exact IntWalk.i64_in _ (by omega)
      have HD := Lib.hid hd2
      clear hcs h1 h2 hbu hbm hs hd hd2 hbm2
      go_wp2
      go_roundw
      case rel => exact ⟨i + 1, by omega, by go_num, by rw [HD.out], by first | rfl | trivial⟩
      case measure => simp [intOf]; omega
theorem rat_low (A : Option Addr) (n c : Nat) (q : Int) (w : World) (h : q < 0) :
    Calls Tryz.prog 17 #[.slice A n c, .int .i64 q] w fun e u => e = .returned (.tuple #[.int .i64 (-1), .int .i64 (-1)]) ∧ u = w := by
  go_enter Tryz.func17, Tryz.ntmps17
  go_wp2
  go_ret2
  exact ⟨rfl, rfl⟩
set_option maxHeartbeats 2000000 in
theorem rat_high (A : Option Addr) (n c : Nat) (ss : List ByteArray) (q : Int) (w : World) (hA : StrsAt w A ss) (hl : ss.length = n) (hq : (bg ss n : Int) ≤ q) (hq2 : q ≤ 9223372036854775807) (hB : bg ss n ≤ 100000) :
    Calls Tryz.prog 17 #[.slice A n c, .int .i64 q] w fun e u => e = .returned (.tuple #[.int .i64 (-1), .int .i64 (-1)]) ∧ u = w := by
  have hn := len_bg ss n
  have HX := Lib.hid (And.intro hA (And.intro hl (And.intro hq hB)))
  have hn2 : n ≤ 100000 := by omega
  have q0 : ¬ q < 0 := by omega
  clear hA hl hq hB hn
  go_enter Tryz.func17, Tryz.ntmps17
  go_wp2
  go_loopw [1, 6] (fun v1 v6 wr => ∃ i : Nat, i ≤ n ∧ v6 = .int .i64 (i : Int) ∧ v1 = .int .i64 (q - (bg ss i : Int)) ∧ wr = w) (fun _ v6 _ => n - (intOf v6).toNat)
  case atStart => exact ⟨0, Nat.zero_le _, rfl, by show _ = Value.int .i64 (q - 0); rw [Int.sub_zero], rfl⟩
  case round =>
    obtain ⟨i, hin, rfl, rfl, rfl⟩ := hrel
    by_cases hlt : i < n
    · obtain ⟨bb, off, hAe, hbl, hcs⟩ := str_all HX.out.1 (by rw [HX.out.2.1]; omega)
      have hc := hcs i (by rw [HX.out.2.1]; omega) wr (Below.refl _ _)
      obtain ⟨-, -, h1, hB⟩ := HX.out
      have hbu := bg_up ss i
      have hbm := bg_mono ss (i := i + 1) (j := n) (by omega)
      subst hAe
      have q1 : (i : Int) < (n : Int) := by omega
      have q2 : (0 : Int) ≤ (i : Int) := by omega
      obtain ⟨s, hs⟩ : ∃ s, tV ss i = s := ⟨_, rfl⟩
      rw [hs] at hc hbu
      obtain ⟨d, hd⟩ : ∃ d, q - (bg ss i : Int) = d := ⟨_, rfl⟩
      obtain ⟨d2, hd2⟩ : ∃ d2, q - (bg ss (i + 1) : Int) = d2 := ⟨_, rfl⟩
      rw [hd]
      have q3 : ¬ d ≤ (s.size : Int) := by omega
      have q4 : IntKind.i64.wrap (d - (s.size : Int)) = d - (s.size : Int) := IntWalk.i64_in _ (by omega)
      have q5 : IntKind.i64.wrap (d - (s.size : Int) - 1) = d2 := by rw [show d - (s.size : Int) - 1 = d2 by omega]; exact IntWalk.i64_in _ (by omega)
      have HD := Lib.hid hd2
      clear hcs h1 hbu hbm hs hd hd2 hB
      go_wp2
      go_roundw
      case rel => exact ⟨i + 1, by omega, by go_num, by rw [HD.out], by first | rfl | trivial⟩
      case measure => simp [intOf]; omega
    · obtain rfl : i = n := by omega
      have q1 : ¬ (i : Int) < (i : Int) := by omega
      go_wp2
      go_ret2
      exact ⟨rfl, rfl⟩

end Go.Proofs.YtpnjccomngdblaaGreat
end

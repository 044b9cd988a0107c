/- Lists in order by a key: what parting them once more makes of them. -/
import Derived.Test.YtpnjccomngdblaaGreatWI
set_option maxRecDepth 100000
namespace Go.Proofs.YtpnjccomngdblaaGreat
open Go.RowKit
open M

/-- O is L behind a stable sort by its keys. -/
def SortOf (κ : Int → Int) (L O : List Int) : Prop := O.Pairwise (fun x y => κ x ≤ κ y) ∧ ∀ v : Int, O.filter (fun x => decide (κ x = v)) = L.filter (fun x => decide (κ x = v))
/-- That sort, as far as the keys are below K. -/
def srt (κ : Int → Int) (L : List Int) (K : Nat) : List Int := (List.range K).flatMap fun (v : Nat) => L.filter fun x => decide (κ x = (v : Int))

theorem sortI_srt (l : List Int) (s k : Nat) : sortI l s k = srt (fun x => x / 2 ^ s) l k := rfl

theorem SortOf.mem {κ : Int → Int} {L O : List Int} (h : SortOf κ L O) {x : Int} (hx : x ∈ O) : x ∈ L := by
  have h1 : x ∈ O.filter (fun y => decide (κ y = κ x)) := by rw [List.mem_filter]; exact ⟨hx, by simp⟩
  rw [h.2] at h1
  exact (List.mem_filter.1 h1).1
theorem SortOf.nil (κ : Int → Int) : SortOf κ [] [] := ⟨List.Pairwise.nil, fun _ => rfl⟩

/-- One run of the same keys but for their least bits, parted. -/
theorem SortOf.run {κ : Int → Int} {P O A : List Int} {q : Int} (h : SortOf κ P O) (hA : ∀ x ∈ A, κ x / 2 = q) (hP : ∀ x ∈ P, κ x / 2 < q) :
    SortOf κ (P ++ A) (O ++ A.filter (fun x => decide (κ x % 2 = 0)) ++ A.filter (fun x => decide (κ x % 2 = 1))) := by
  constructor
  · rw [List.pairwise_append, List.pairwise_append]
    refine ⟨⟨h.1, ?_, ?_⟩, ?_, ?_⟩
    · refine List.pairwise_iff_forall_sublist.2 fun {a b} hs => ?_
      have ha := hs.subset (show a ∈ [a, b] by simp)
      have hb := hs.subset (show b ∈ [a, b] by simp)
      simp only [List.mem_filter, decide_eq_true_eq] at ha hb
      have := hA a ha.1
      have := hA b hb.1
      omega
    · intro a ha b hb
      simp only [List.mem_filter, decide_eq_true_eq] at hb
      have := hP a (h.mem ha)
      have := hA b hb.1
      omega
    · refine List.pairwise_iff_forall_sublist.2 fun {a b} hs => ?_
      have ha := hs.subset (show a ∈ [a, b] by simp)
      have hb := hs.subset (show b ∈ [a, b] by simp)
      simp only [List.mem_filter, decide_eq_true_eq] at ha hb
      have := hA a ha.1
      have := hA b hb.1
      omega
    · intro a ha b hb
      simp only [List.mem_append, List.mem_filter, decide_eq_true_eq] at ha hb
      have := hA b hb.1
      rcases ha with ha | ha
      · have := hP a (h.mem ha); omega
      · have := hA a ha.1; omega
  · intro v
    rw [List.filter_append, List.filter_append, List.filter_append, h.2, List.append_assoc]
    congr 1
    rw [List.filter_filter, List.filter_filter]
    by_cases hv : v % 2 = 0
    · have e1 : A.filter (fun x => decide (κ x = v) && decide (κ x % 2 = 1)) = [] := by
        rw [List.filter_eq_nil_iff]
        intro x _
        simp only [Bool.and_eq_true, decide_eq_true_eq, not_and]
        intro e; omega
      have e0 : (fun x => decide (κ x = v) && decide (κ x % 2 = 0)) = fun x => decide (κ x = v) := by
        funext x
        by_cases e : κ x = v
        · simp [e, hv]
        · simp [e]
      rw [e1, e0, List.append_nil]
    · have e0 : A.filter (fun x => decide (κ x = v) && decide (κ x % 2 = 0)) = [] := by
        rw [List.filter_eq_nil_iff]
        intro x _
        simp only [Bool.and_eq_true, decide_eq_true_eq, not_and]
        intro e; omega
      have e1 : (fun x => decide (κ x = v) && decide (κ x % 2 = 1)) = fun x => decide (κ x = v) := by
        funext x
        by_cases e : κ x = v
        · simp [e]; omega
        · simp [e]
      rw [e0, e1, List.nil_append]

theorem filt_join (κ : Int → Int) (O : List Int) (h : O.Pairwise (fun x y => κ x ≤ κ y)) (K : Int) :
    O.filter (fun x => decide (κ x < K)) ++ O.filter (fun x => decide (κ x = K)) = O.filter (fun x => decide (κ x < K + 1)) := by
  induction O with
  | nil => rfl
  | cons x r ih =>
    have hr := ih (List.pairwise_cons.1 h).2
    have hx := (List.pairwise_cons.1 h).1
    by_cases h1 : κ x < K
    · rw [List.filter_cons_of_pos (by simpa using h1), List.filter_cons_of_neg (by simp; omega), List.filter_cons_of_pos (by simp; omega), List.cons_append, hr]
    · by_cases h2 : κ x = K
      · have e : r.filter (fun x => decide (κ x < K)) = [] := by
          rw [List.filter_eq_nil_iff]
          intro y hy
          have := hx y hy
          simp; omega
        rw [e, List.nil_append] at hr
        rw [List.filter_cons_of_neg (by simpa using h1), e, List.nil_append, List.filter_cons_of_pos (by simpa using h2), List.filter_cons_of_pos (by simp; omega), hr]
      · rw [List.filter_cons_of_neg (by simpa using h1), List.filter_cons_of_neg (by simpa using h2), List.filter_cons_of_neg (by simp; omega), hr]
theorem srt_sorted (κ : Int → Int) (O : List Int) (h : O.Pairwise (fun x y => κ x ≤ κ y)) (h0 : ∀ x ∈ O, 0 ≤ κ x) (K : Nat) : srt κ O K = O.filter fun x => decide (κ x < (K : Int)) := by
  induction K with
  | zero =>
    have e : O.filter (fun x => decide (κ x < ((0 : Nat) : Int))) = [] := by
      rw [List.filter_eq_nil_iff]; intro x hx; have := h0 x hx; simp; omega
    rw [e]; rfl
  | succ K ih =>
    have e : srt κ O (K + 1) = srt κ O K ++ O.filter fun x => decide (κ x = (K : Int)) := by
      unfold srt; rw [List.range_succ, List.flatMap_append]; simp
    rw [e, ih, filt_join κ O h K]
    rfl
theorem SortOf.eq {κ : Int → Int} {L O : List Int} (h : SortOf κ L O) (K : Nat) (hK : ∀ x ∈ L, 0 ≤ κ x ∧ κ x < (K : Int)) : O = srt κ L K := by
  have h1 := srt_sorted κ O h.1 (fun x hx => (hK x (h.mem hx)).1) K
  have h2 : O.filter (fun x => decide (κ x < (K : Int))) = O := by
    rw [List.filter_eq_self]; intro x hx; simpa using (hK x (h.mem hx)).2
  rw [h2] at h1
  rw [← h1]
  unfold srt
  congr 1
  funext v
  exact h.2 v

theorem srt_mem {κ : Int → Int} {L : List Int} {K : Nat} {x : Int} (h : x ∈ srt κ L K) : x ∈ L := by
  unfold srt at h
  simp only [List.mem_flatMap, List.mem_filter] at h
  obtain ⟨v, -, h, -⟩ := h
  exact h
theorem srt_lt {κ : Int → Int} {L : List Int} {K : Nat} {x : Int} (h : x ∈ srt κ L K) : κ x < (K : Int) := by
  unfold srt at h
  simp only [List.mem_flatMap, List.mem_filter, List.mem_range, decide_eq_true_eq] at h
  obtain ⟨v, h1, -, h2⟩ := h
  omega
theorem srt_pw (κ : Int → Int) (L : List Int) (K : Nat) : (srt κ L K).Pairwise (fun x y => κ x ≤ κ y) := by
  induction K with
  | zero => simp [srt]
  | succ K ih =>
    have e : srt κ L (K + 1) = srt κ L K ++ L.filter fun x => decide (κ x = (K : Int)) := by
      unfold srt; rw [List.range_succ, List.flatMap_append]; simp
    rw [e, List.pairwise_append]
    refine ⟨ih, ?_, ?_⟩
    · refine List.pairwise_iff_forall_sublist.2 fun {a b} hs => ?_
      have ha := hs.subset (show a ∈ [a, b] by simp)
      have hb := hs.subset (show b ∈ [a, b] by simp)
      simp only [List.mem_filter, decide_eq_true_eq] at ha hb
      omega
    · intro a ha b hb
      have := srt_lt ha
      simp only [List.mem_filter, decide_eq_true_eq] at hb
      omega
/-- Those of one finer key stand as they stood. -/
theorem srt_filter (κ μ : Int → Int) (L : List Int) (K : Nat) (hμ : ∀ x ∈ L, 0 ≤ κ x ∧ κ x < (K : Int)) (hk : ∀ x y, μ x = μ y → κ x = κ y) (v : Int) :
    (srt κ L K).filter (fun x => decide (μ x = v)) = L.filter (fun x => decide (μ x = v)) := by
  by_cases hne : ∃ y ∈ L, μ y = v
  · obtain ⟨y, hy, hyv⟩ := hne
    obtain ⟨h0, h1⟩ := hμ y hy
    have key : ∀ M : Nat, (srt κ L M).filter (fun x => decide (μ x = v)) = if κ y < (M : Int) then L.filter (fun x => decide (μ x = v)) else [] := by
      intro M
      induction M with
      | zero => rw [if_neg (by omega)]; rfl
      | succ M ih =>
        have e : srt κ L (M + 1) = srt κ L M ++ L.filter fun x => decide (κ x = (M : Int)) := by
          unfold srt; rw [List.range_succ, List.flatMap_append]; simp
        rw [e, List.filter_append, ih, List.filter_filter]
        by_cases hM : κ y = (M : Int)
        · rw [if_neg (by omega), if_pos (by omega), List.nil_append]
          congr 1
          funext x
          by_cases hx : μ x = v
          · have := hk x y (by rw [hx, hyv]); simp [hx, this, hM]
          · simp [hx]
        · have e2 : L.filter (fun x => decide (μ x = v) && decide (κ x = (M : Int))) = [] := by
            rw [List.filter_eq_nil_iff]
            intro x _
            simp only [Bool.and_eq_true, decide_eq_true_eq, not_and]
            intro hx hx2
            exact hM (by rw [← hk x y (by rw [hx, hyv])]; exact hx2)
          rw [e2, List.append_nil]
          by_cases h3 : κ y < (M : Int)
          · rw [if_pos h3, if_pos (by omega)]
          · rw [if_neg h3, if_neg (by omega)]
    rw [key K, if_pos h1]
  · have hn : ∀ x ∈ L, ¬ μ x = v := fun x hx e => hne ⟨x, hx, e⟩
    have e1 : L.filter (fun x => decide (μ x = v)) = [] := by rw [List.filter_eq_nil_iff]; intro x hx; simpa using hn x hx
    have e2 : (srt κ L K).filter (fun x => decide (μ x = v)) = [] := by rw [List.filter_eq_nil_iff]; intro x hx; simpa using hn x (srt_mem hx)
    rw [e1, e2]
theorem srt_one (κ : Int → Int) (L : List Int) (h : ∀ x ∈ L, κ x = 0) : srt κ L 1 = L := by
  unfold srt
  simp only [List.range_one, List.flatMap_cons, List.flatMap_nil, List.append_nil]
  rw [List.filter_eq_self]
  intro x hx
  simpa using h x hx
/-- Parting what is in order by all of a key but its least bit. -/
theorem part_srt (κ : Int → Int) (L O : List Int) (K : Nat) (h : ∀ x ∈ L, 0 ≤ κ x ∧ κ x < ((2 * K : Nat) : Int)) (hO : SortOf κ (srt (fun x => κ x / 2) L K) O) : O = srt κ L (2 * K) := by
  have hL : ∀ x ∈ L, 0 ≤ κ x / 2 ∧ κ x / 2 < (K : Int) := fun x hx => by have := h x hx; omega
  have h2 : SortOf κ L O := ⟨hO.1, fun v => by rw [hO.2, srt_filter _ κ L K hL (fun x y e => by rw [e]) v]⟩
  exact h2.eq (2 * K) h

end Go.Proofs.YtpnjccomngdblaaGreat

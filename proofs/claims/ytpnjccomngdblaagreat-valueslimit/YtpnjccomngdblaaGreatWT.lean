/- The closure of Distinct, which calls itself. -/
import Derived.Test.YtpnjccomngdblaaGreatWS
set_option maxRecDepth 100000
namespace Go.Proofs.YtpnjccomngdblaaGreat
open Go.RowKit
open M
attribute [local go_sem ↓] Go.wp_at_zero Go.wp_at_succ

/-- The symbols with the first bits p that are in m, rising. -/
def disL (M : List Int) (m p : Nat) : List Int := ((List.range (2 ^ m)).filter fun (i : Nat) => decide (((p * 2 ^ m + i : Nat) : Int) ∈ M)).map fun (i : Nat) => ((p * 2 ^ m + i : Nat) : Int)
theorem disL_len (M : List Int) (m p : Nat) : (disL M m p).length ≤ 2 ^ m := by
  unfold disL; rw [List.length_map]
  have := List.length_filter_le (fun (i : Nat) => decide (((p * 2 ^ m + i : Nat) : Int) ∈ M)) (List.range (2 ^ m))
  rwa [List.length_range] at this
theorem disL_step (M : List Int) (m p : Nat) : disL M (m + 1) p = disL M m (2 * p) ++ disL M m (2 * p + 1) := by
  unfold disL
  rw [show (2 : Nat) ^ (m + 1) = 2 ^ m + 2 ^ m by rw [Nat.pow_succ]; omega, List.range_add, List.filter_append, List.map_append]
  have e1 : ∀ i, p * (2 ^ m + 2 ^ m) + i = 2 * p * 2 ^ m + i := fun i => by rw [Nat.mul_add, Nat.mul_assoc 2 p]; omega
  have e2 : ∀ i, p * (2 ^ m + 2 ^ m) + (2 ^ m + i) = (2 * p + 1) * 2 ^ m + i := fun i => by rw [Nat.mul_add, Nat.add_mul, Nat.mul_assoc 2 p]; omega
  congr 1
  · simp only [e1]
  · rw [List.filter_map, List.map_map]
    simp only [Function.comp_def, e2]
theorem disL_none (M : List Int) (m p : Nat) (h : (withI M m p).length = 0) : disL M m p = [] := by
  unfold disL
  rw [List.map_eq_nil_iff, List.filter_eq_nil_iff]
  intro i hi
  rw [List.mem_range] at hi
  rw [decide_eq_true_eq]
  intro hx
  have : ((p * 2 ^ m + i : Nat) : Int) ∈ withI M m p := by
    unfold withI
    rw [List.mem_filter]
    refine ⟨hx, decide_eq_true ?_⟩
    have e : (p * 2 ^ m + i) / 2 ^ m = p := by
      rw [Nat.mul_comm, Nat.mul_add_div (Nat.pow_pos (by decide)), Nat.div_eq_of_lt hi]; rfl
    have e2 : ((2 : Int) ^ m) = ((2 ^ m : Nat) : Int) := by simp
    rw [e2, ← Int.natCast_ediv, e]
  rw [List.length_eq_zero_iff] at h
  rw [h] at this
  simp at this
theorem disL_one (M : List Int) (p : Nat) (h : (withI M 0 p).length ≠ 0) : disL M 0 p = [(p : Int)] := by
  unfold disL
  have hm : (p : Int) ∈ M := by
    obtain ⟨x, hx⟩ := List.exists_mem_of_length_pos (Nat.pos_of_ne_zero h)
    unfold withI at hx
    rw [List.mem_filter, decide_eq_true_eq] at hx
    have : x = (p : Int) := by simpa using hx.2
    rw [← this]; exact hx.1
  simp [hm]

/-- What changes in a call of the closure: where found stands, and its own list. -/
structure DK (w : World) (fv fv' : Value) (u u' : World) : Prop where
  kp : Kp (fun k => k = w.heap.size + 1 ∨ fv.ownBlock = some k) u u'
  at_ : ∀ g, fv'.ownBlock = some g → fv.ownBlock = some g ∨ u.heap.size ≤ g
theorem DK.refl (w : World) (fv : Value) (u : World) : DK w fv fv u u := ⟨Kp.refl _ _, fun _ h => .inl h⟩
theorem DK.below {w : World} {fv fv' : Value} {u u' u'' : World} (h : DK w fv fv' u u') (hb : Below u'.heap.size u' u'') : DK w fv fv' u u'' := ⟨h.kp.below hb, h.at_⟩
theorem DK.trans {w : World} {fv fv' fv'' : Value} {u u' u'' : World} (h : DK w fv fv' u u') (h2 : DK w fv' fv'' u' u'') : DK w fv fv'' u u'' := by
  refine ⟨⟨h2.kp.os.trans h.kp.os, h2.kp.tape.trans h.kp.tape, h2.kp.output.trans h.kp.output, Nat.le_trans h.kp.size h2.kp.size, fun k hk hx => ?_⟩, fun g e => ?_⟩
  · rw [h2.kp.block k (Nat.lt_of_lt_of_le hk h.kp.size) (fun e => ?_)]
    · exact h.kp.block k hk hx
    · rcases e with e | e
      · exact hx (.inl e)
      · rcases h.at_ k e with e | e
        · exact hx (.inr e)
        · omega
  · rcases h2.at_ g e with e | e
    · exact h.at_ g e
    · exact .inr (Nat.le_trans h.kp.size e)
theorem FBx.kp {X : Nat → Prop} {w w' : World} {b : Nat} {F : FP} (h : FBx w b F) (hb : Kp X w w') (hx : ¬ X b) : FBx w' b F := by
  have cl : ∀ o, w'.cell? ⟨b, o, none⟩ = w.cell? ⟨b, o, none⟩ := fun o => hb.cell (p := ⟨b, o, none⟩) h.lt hx
  exact ⟨by rw [cl]; exact h.c0, by rw [cl]; exact h.c1, by rw [cl]; exact h.c2, by rw [cl]; exact h.c3, by rw [cl]; exact h.c4, by rw [cl]; exact h.c5, by rw [cl]; exact h.c6, by rw [cl]; exact h.c7, by rw [cl]; exact h.c8, by rw [cl]; exact h.c9, by rw [cl]; exact h.c10⟩

end Go.Proofs.YtpnjccomngdblaaGreat

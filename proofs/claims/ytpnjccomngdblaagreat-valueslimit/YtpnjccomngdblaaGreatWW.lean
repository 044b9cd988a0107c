/- What the laws of rows of symbols hold in memory; plain facts on counts. -/
import Derived.Test.YtpnjccomngdblaaGreatWV
set_option maxRecDepth 100000
namespace Go.Proofs.YtpnjccomngdblaaGreat
open Go.RowKit
open M

/-- A boxed row of symbols, its list, and three numbers, in a law's call. -/
structure LG (w : World) (qb : Nat) (q0 q1 q2 : Int) (b n : Nat) (l : List Int) (W : Nat) (a : Option Addr) (cap : Nat) (size : Int) (ma : Option Addr) (u : World) : Prop where
  wl : WL w b n l W a cap size u
  z0 : u.cell? ⟨qb, 0, none⟩ = some (.int .i64 q0)
  z1 : u.cell? ⟨qb, 1, none⟩ = some (.int .i64 q1)
  z2 : u.cell? ⟨qb, 2, none⟩ = some (.int .i64 q2)
  nums : NumsAt .i64 u ma l
theorem LG.kept {w u u' : World} {qb : Nat} {q0 q1 q2 : Int} {b n : Nat} {l : List Int} {W : Nat} {a : Option Addr} {cap : Nat} {size : Int} {ma : Option Addr} (h : LG w qb q0 q1 q2 b n l W a cap size ma u) (hb : Below u.heap.size u u') : LG w qb q0 q1 q2 b n l W a cap size ma u' := by
  have hl := World.block_lt_of_cell? u _ h.z0
  exact ⟨h.wl.kept hb, by rw [hb.cell (p := ⟨qb, 0, none⟩) hl]; exact h.z0, by rw [hb.cell (p := ⟨qb, 1, none⟩) hl]; exact h.z1, by rw [hb.cell (p := ⟨qb, 2, none⟩) hl]; exact h.z2, h.nums.kept hb⟩
theorem LG.drew {w u : World} {qb : Nat} {q0 q1 q2 : Int} {b n : Nat} {l : List Int} {W : Nat} {a : Option Addr} {cap : Nat} {size : Int} {ma : Option Addr} (h : LG w qb q0 q1 q2 b n l W a cap size ma u) : LG w qb q0 q1 q2 b n l W a cap size ma u.drew := h.kept ((Below.refl _ _).drew)

theorem may_syms (l : List Int) (s : Nat) (h1 : 1 ≤ s) (h2 : s ≤ 32) (hx : ∀ x ∈ l, 0 ≤ x ∧ x < (s : Int)) : mayB l (s : Int) = true := by
  unfold mayB
  rw [decide_eq_true (by omega : (1 : Int) ≤ (s : Int)), decide_eq_true (by omega : (s : Int) ≤ 65536), Bool.true_and, Bool.true_and, List.all_eq_true]
  intro x hxl
  have := hx x hxl
  rw [decide_eq_true this.1, decide_eq_true this.2]; rfl

theorem rng_zero (l : List Int) (j : Nat) : rng l 0 j = l.take j := by simp [rng]
theorem eqN_rk (l : List Int) (y j : Nat) : eqN (rng l 0 j) y = rkN true (eqs l (y : Int)) j := by
  rw [rng_zero, ← with_zero, ← pre_rk]; rfl
theorem cnt_rk (l : List Int) (size : Int) (y : Nat) (i : Int) (hy : (y : Int) < size) : cntN l size (y : Int) 0 i = rkN true (eqs l (y : Int)) (lo l.length i) := by
  unfold cntN
  rw [if_pos (by unfold hasB; exact decide_eq_true ⟨by omega, hy⟩), hi_zero, show lo l.length 0 = 0 by unfold lo; omega, show ((y : Int)).toNat = y by omega, eqN_rk]
theorem ltN_succ (m : List Int) (c : Nat) : ltN m (c + 1) = ltN m c + eqN m c := by
  unfold ltN eqN
  refine countP_split m _ _ _ (fun x => ?_) (fun x hx => ?_)
  · rw [← Bool.decide_or, decide_eq_decide]; omega
  · simp only [decide_eq_true_eq] at hx; simp only [decide_eq_false_iff_not]; omega
theorem ltN_zero (m : List Int) (h : ∀ x ∈ m, 0 ≤ x) : ltN m 0 = 0 := by
  unfold ltN
  rw [List.countP_eq_zero]
  intro x hx
  have := h x hx
  simp; omega
theorem ltN_all (m : List Int) (c : Nat) (h : ∀ x ∈ m, x < (c : Int)) : ltN m c = m.length := by
  unfold ltN
  rw [List.countP_eq_length]
  intro x hx
  simpa using h x hx
theorem bel_lt (l : List Int) (size : Int) (y : Nat) (i : Int) (hx : ∀ x ∈ l, 0 ≤ x ∧ x < size) : belN l size (y : Int) i = ltN (rng l 0 (lo l.length i)) y := by
  have hm : ∀ x ∈ rng l 0 (lo l.length i), 0 ≤ x ∧ x < size := fun x h => hx x (rng_mem _ _ _ h)
  unfold belN
  by_cases h1 : (y : Int) ≤ 0
  · rw [if_pos h1, show y = 0 by omega, ltN_zero _ (fun x h => (hm x h).1)]
  · rw [if_neg h1]
    by_cases h2 : size ≤ (y : Int)
    · rw [if_pos h2, ltN_all _ y (fun x h => by have := (hm x h).2; omega), rng_zero, List.length_take]
      have := lo_le l.length i
      omega
    · rw [if_neg h2, show ((y : Int)).toNat = y by omega]

/-- A number's rest by another: without its sign, and put above 0. -/
theorem abs_rest (x : Int) (q : Nat) (hq : 0 < q) : ∃ y : Int, x.tmod (q : Int) = y ∧ y < (q : Int) ∧ -(q : Int) < y := by
  have t1 := Int.tmod_lt_of_pos x (b := (q : Int)) (by omega)
  have t2 := Int.lt_tmod_of_pos x (b := (q : Int)) (by omega)
  exact ⟨_, rfl, t1, t2⟩
theorem up_rest (y : Int) (q : Nat) (h1 : y < (q : Int)) (h2 : -(q : Int) < y) : ∃ z : Nat, (y + (q : Int)).tmod (q : Int) = (z : Int) ∧ z < q := by
  have e : (y + (q : Int)).tmod (q : Int) = (y + (q : Int)) % (q : Int) := Int.tmod_eq_emod_of_nonneg (by omega)
  have h3 := Int.emod_nonneg (y + (q : Int)) (b := (q : Int)) (by omega)
  have h4 := Int.emod_lt_of_pos (y + (q : Int)) (b := (q : Int)) (by omega)
  exact ⟨((y + (q : Int)) % (q : Int)).toNat, by rw [e]; omega, by omega⟩

theorem selN_some (b : Bool) (l : List Bool) (k : Int) (h0 : 0 ≤ k) (h1 : k < (rkN b l l.length : Int)) : ∃ p : Nat, p < l.length ∧ selN b l k = (p : Int) ∧ l.getD p false = b ∧ (rkN b l p : Int) = k ∧ (rkN b l (p + 1) : Int) = k + 1 := by
  have key : ∀ n, n ≤ l.length → k < (rkN b l n : Int) → ∃ p, p < n ∧ l.getD p false = b ∧ (rkN b l p : Int) = k := by
    intro n
    induction n with
    | zero => intro _ h; simp [rkN] at h; omega
    | succ n ih =>
      intro hn h
      have hs := rkN_succ b l n (by omega)
      by_cases hk : k < (rkN b l n : Int)
      · obtain ⟨p, hp, h2, h3⟩ := ih (by omega) hk
        exact ⟨p, by omega, h2, h3⟩
      · by_cases hb : l.getD n false = b
        · rw [if_pos hb] at hs
          exact ⟨n, by omega, hb, by omega⟩
        · rw [if_neg hb] at hs
          omega
  obtain ⟨p, hp, h2, h3⟩ := key l.length (Nat.le_refl _) h1
  have hs := rkN_succ b l p hp
  rw [if_pos h2] at hs
  exact ⟨p, hp, selN_at b l k p hp h2 h3, h2, h3, by omega⟩

end Go.Proofs.YtpnjccomngdblaaGreat

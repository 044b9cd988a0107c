/- A list of ranks that a call makes, one behind the other. -/
import Derived.Test.YtpnjccomngdblaaGreatWE
set_option maxRecDepth 100000
namespace Go.Proofs.YtpnjccomngdblaaGreat
open Go.RowKit
open M

theorem own_ne {w : World} {b1 b2 e1 e2 z1 z2 n1 n2 : Nat} {v1 v2 : Value} {x1 x2 : List Value} (h1 : w.ownsRow b1 e1 z1 v1 n1 x1) (h2 : w.ownsRow b2 e2 z2 v2 n2 x2) (hne : e1 ≠ e2) {k : Nat} (hk : v1.ownBlock = some k) : v2.ownBlock ≠ some k := by
  intro hk2
  rcases h1.2 with ⟨rfl, -⟩ | ⟨g, cap, cur, rfl, -, hh, -⟩
  · simp [Value.ownBlock] at hk
  rcases h2.2 with ⟨rfl, -⟩ | ⟨g2, cap2, cur2, rfl, -, hh2, -⟩
  · simp [Value.ownBlock] at hk2
  simp only [Value.ownBlock, Option.some.injEq] at hk hk2
  subst hk hk2
  rw [hh] at hh2
  simp only [Option.some.injEq, Obj.cells.injEq] at hh2
  exact hne hh2.2.1

/-- The six cells of a rank. -/
def rcl (R : RP) : List Value := [.int .i64 (R.n : Int), .slice R.a R.m R.c, .int .i64 (R.cn : Int), .int .i64 (R.cW : Int), .int .i64 (R.cL : Int), .slice R.a2 R.m2 R.c2]
def R0 : RP := ⟨0, none, 0, 0, 0, 0, 0, none, 0, 0⟩

theorem rcl_at (Rs : List RP) (j i : Nat) (hj : j < Rs.length) (hi : i < 6) : (Rs.flatMap rcl)[j * 6 + i]? = (rcl (Rs.getD j R0))[i]? := by
  induction Rs generalizing j with
  | nil => simp at hj
  | cons R r ih =>
    rw [List.flatMap_cons]
    cases j with
    | zero =>
      rw [Nat.zero_mul, Nat.zero_add, List.getElem?_append_left (by simp [rcl]; omega)]; simp
    | succ j =>
      rw [List.getElem?_append_right (by simp [rcl]; omega)]
      have := ih j (by simpa using hj)
      rw [show (j + 1) * 6 + i - (rcl R).length = j * 6 + i by simp [rcl]; omega, this]
      simp

theorem rcl_len (Rs : List RP) : (Rs.flatMap rcl).length = Rs.length * 6 := by
  induction Rs with
  | nil => simp
  | cons R r ih => rw [List.flatMap_cons, List.length_append, ih]; simp [rcl]; omega

theorem RK.kp {X : Nat → Prop} {w w' : World} {R : RP} {l : List Bool} (h : RK w R l) (hb : Kp X w w') (h1 : ∀ k, (Value.slice R.a R.m R.c).ownBlock = some k → ¬ X k) (h2 : ∀ xs, IRow w R.cn R.cW R.cL R.a2 R.m2 R.c2 xs → ∀ k, (Value.slice R.a2 R.m2 R.c2).ownBlock = some k → ¬ X k) : RK w' R l :=
  { h with row := row_kp h.row hb h1, cnts := h.cnts.imp id fun x => x.kp hb (h2 _ x) }

/-- Ranks of rows of n bits in a list of the call's own. -/
def OwnR (w : World) (n : Nat) (v : Value) (ls : List (List Bool)) (u : World) : Prop :=
  (∃ Rs : List RP, Rs.length = ls.length ∧ u.ownsRow w.heap.size 35 6 v ls.length (Rs.flatMap rcl) ∧ ∀ j, j < ls.length → RK u (Rs.getD j R0) (ls.getD j []) ∧ (Rs.getD j R0).n = n) ∧ Below w.heap.size w u

theorem OwnR.nil (w u : World) (n : Nat) (hb : Below w.heap.size w u) : OwnR w n (.slice none 0 0) [] u := ⟨⟨[], rfl, World.ownsRow_nil _ _ _ _, fun j hj => absurd hj (by simp)⟩, hb⟩

theorem OwnR.kept {w u u' : World} {n : Nat} {v : Value} {ls : List (List Bool)} (h : OwnR w n v ls u) (hb : Below u.heap.size u u') : OwnR w n v ls u' := by
  obtain ⟨⟨Rs, h1, h2, h3⟩, h4⟩ := h
  exact ⟨⟨Rs, h1, own_kept h2 hb, fun j hj => ⟨(h3 j hj).1.kept hb, (h3 j hj).2⟩⟩, h4.trans (hb.mono h4.size)⟩

theorem RK.grown {u u' : World} {B n : Nat} {v : Value} {xs : List Value} {R : RP} {l : List Bool} (h : RK u R l) (hv : u.ownsRow B 35 6 v n xs) (hk : Kp (fun k => v.ownBlock = some k) u u') : RK u' R l :=
  h.kp hk (fun _ e => own_ne h.row hv (by decide) e) (fun _ hi _ e => own_ne hi.row hv (by decide) e)

/-- A rank more, behind those that are there. -/
theorem OwnR.app {w u u' : World} {n : Nat} {v v' : Value} {ls : List (List Bool)} {Rs : List RP} {R : RP} {l : List Bool} (h1 : Rs.length = ls.length) (h2 : u.ownsRow w.heap.size 35 6 v ls.length (Rs.flatMap rcl))
    (h3 : ∀ j, j < ls.length → RK u (Rs.getD j R0) (ls.getD j []) ∧ (Rs.getD j R0).n = n) (h4 : Below w.heap.size w u) (hr : RK u R l) (hn : R.n = n) (o : Obj)
    (hown : u'.ownsRow w.heap.size 35 6 v' (ls.length + 1) (Rs.flatMap rcl ++ rcl R)) (hg : (u.alloc o).grownBy u' v.ownBlock) : OwnR w n v' (ls ++ [l]) u' := by
  have hk : Kp (fun k => v.ownBlock = some k) u u' := ((Kp.refl _ u).alloc o).grown hg (fun k hk _ => hk)
  refine ⟨⟨Rs ++ [R], by simp [h1], by rw [List.length_append, List.flatMap_append]; simpa using hown, fun j hj => ?_⟩, h4.trans (hk.toBelow h4.size (fun k hk e => by have := (h2.lt k e).1; omega))⟩
  rw [List.length_append] at hj
  by_cases hlt : j < ls.length
  · have e1 : (ls ++ [l]).getD j [] = ls.getD j [] := by simp [List.getD_eq_getElem?_getD, List.getElem?_append_left hlt]
    have e2 : (Rs ++ [R]).getD j R0 = Rs.getD j R0 := by simp [List.getD_eq_getElem?_getD, List.getElem?_append_left (show j < Rs.length by omega)]
    rw [e1, e2]
    exact ⟨(h3 j hlt).1.grown h2 hk, (h3 j hlt).2⟩
  · obtain rfl : j = ls.length := by simp at hj; omega
    have e1 : (ls ++ [l]).getD ls.length [] = l := by simp [List.getD_eq_getElem?_getD]
    have e2 : (Rs ++ [R]).getD ls.length R0 = R := by rw [← h1]; simp [List.getD_eq_getElem?_getD]
    rw [e1, e2]
    exact ⟨hr.grown h2 hk, hn⟩

theorem RCx.of_own {w : World} {B g cap n : Nat} {Rs : List RP} (h : w.ownsRow B 35 6 (.slice (some ⟨g, 0, none⟩) n cap) n (Rs.flatMap rcl)) (hn : Rs.length = n) (j : Nat) (hj : j < n) : RCx w g (j * 6) (Rs.getD j R0) := by
  have hc : ∀ i, i < 6 → w.cell? ⟨g, j * 6 + i, none⟩ = (rcl (Rs.getD j R0))[i]? := fun i hi => by
    rw [← rcl_at Rs j i (by omega) hi]
    exact h.cellAt (j * 6 + i) (by omega)
  exact ⟨by simpa [rcl] using hc 0 (by omega), by simpa [rcl] using hc 1 (by omega), by simpa [rcl] using hc 2 (by omega), by simpa [rcl] using hc 3 (by omega), by simpa [rcl] using hc 4 (by omega), by simpa [rcl] using hc 5 (by omega)⟩

theorem OwnR.rs {w u : World} {n : Nat} {v : Value} {ls : List (List Bool)} (h : OwnR w n v ls u) : ∃ a cap, v = .slice a ls.length cap ∧ RS u n a ls.length ls := by
  obtain ⟨⟨Rs, h1, h2, h3⟩, h4⟩ := h
  rcases h2.2 with ⟨rfl, hn⟩ | ⟨g, cap, cur, rfl, -⟩
  · exact ⟨none, 0, by rw [hn], rfl, fun j hj => by omega⟩
  · exact ⟨_, cap, rfl, rfl, fun j hj => ⟨g, Rs.getD j R0, rfl, RCx.of_own h2 h1 j hj, (h3 j hj).1, (h3 j hj).2⟩⟩

end Go.Proofs.YtpnjccomngdblaaGreat

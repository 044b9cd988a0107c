/- The contracts of Len, Width, Get, At, Bytes, Same of rows of numbers. -/
import Derived.Test.YtfhlcclbjagdmaaIC
namespace Go.Proofs.Ytfhlcclbjagdmaa
open Go.RowKit
open M

theorem rowB_drop (xs : List Int) (W i : Nat) (h : i ≤ xs.length) : (rowB xs W).drop (i * W) = rowB (xs.drop i) W := by
  have e : rowB xs W = rowB (xs.take i) W ++ rowB (xs.drop i) W := by
    unfold rowB
    rw [← List.flatten_append, ← List.map_append, List.take_append_drop]
  have hl : (rowB (xs.take i) W).length = i * W := by rw [rowB_length, List.length_take, Nat.min_eq_left h]
  rw [e, List.drop_append_of_le_length (by omega), ← hl]
  simp

theorem rowB_cons (x : Int) (xs : List Int) (W : Nat) : rowB (x :: xs) W = bitsOf x.toNat W ++ rowB xs W := by simp [rowB]

theorem rowB_at (xs : List Int) (W i : Nat) (h : i < xs.length) : ((rowB xs W).drop (i * W)).take W = bitsOf (xs.getD i 0).toNat W := by
  rw [rowB_drop xs W i (by omega), List.drop_eq_getElem_cons h]
  rw [rowB_cons, List.take_append_of_le_length (by rw [bitsOf_length]; omega), List.take_of_length_le (by rw [bitsOf_length]; omega)]
  simp [List.getD_eq_getElem?_getD, h]

theorem mul_lt (i n W : Nat) (h : i < n) : i * W + W ≤ n * W := by
  rw [← Nat.succ_mul]; exact Nat.mul_le_mul_right _ h

set_option maxHeartbeats 1000000 in
theorem iget_in (n W L : Nat) (a : Option Addr) (m c : Nat) (xs : List Int) (i : Nat) (w : World) (h : RowAt w (.slice a m c) (rowB xs W)) (hn : xs.length = n) (hL : n * W = L) (hl : L ≤ 1000000000) (_hn' : n ≤ 1000000000) (hW : W ≤ 62) (hfit : Fits xs W) (hi : i < n) :
    Calls Try.prog 33 #[intsV n W L (.slice a m c), .int .i64 (i : Int)] w fun e w' => e = .returned (.tuple #[.int .i64 (xs.getD i 0), .int .i64 0]) ∧ Below w.heap.size w w' := by
  unfold intsV
  have hrl : (rowB xs W).length = L := by rw [rowB_length, hn, hL]
  have hal := fun o => ((Below.refl w.heap.size w).alloc (Nat.le_refl _) o)
  have hm := mul_lt i n W hi
  have hb := fun o => number_in a m c (rowB xs W) (i * W) W (w.alloc o) (h.kept (hal o)) (by omega) (by omega) (by omega)
  rw [rowB_at xs W i (by omega), hrl] at hb
  have hx := hfit _ (memI xs i (by omega))
  have hpw : ((2 : Int) ^ W) ≤ 2 ^ 62 := by
    have h2 : (2 : Nat) ^ W ≤ 2 ^ 62 := Nat.pow_le_pow_right (by decide) hW
    have e : ((2 : Int) ^ W) = ((2 ^ W : Nat) : Int) := by simp
    rw [e]; exact_mod_cast h2
  have hx2 : (xs.getD i 0) < 4611686018427387904 := by omega
  have hnum : ((num (bitsOf (xs.getD i 0).toNat W) : Nat) : Int) = xs.getD i 0 := by
    rw [← putU_ok _ W hW hx.1 hx.2, IntKind.wrap_u64]; omega
  have hx1 := hx.1
  rw [hnum] at hb
  have HB := Lib.hid hb
  have q1 : (i : Int) * (W : Int) ≤ 1000000000 := by
    have : ((i * W : Nat) : Int) ≤ 1000000000 := by omega
    simpa using this
  have q2 : 0 ≤ (i : Int) * (W : Int) := Int.mul_nonneg (by omega) (by omega)
  have q3 : ((i * W : Nat) : Int) = (i : Int) * (W : Int) := by simp
  rw [q3] at HB
  clear hb h hrl hx hpw hnum hfit hm hL q3
  generalize xs.getD i 0 = x at *
  go_enter Try.func33, Try.ntmps33
  go_wp2_with fail
  refine (HB.out _).mono ?_
  rintro e w' ⟨rfl, hb⟩
  have HB2 := Lib.hid hb
  clear hb HB
  go_wp2
  go_ret2
  exact ⟨rfl, (hal _).trans (HB2.out.mono (by simp))⟩

set_option maxHeartbeats 400000 in
theorem iget_out (n W L : Nat) (a : Option Addr) (m c : Nat) (i : Int) (w : World) (hi : i < 0 ∨ (n : Int) ≤ i) :
    Calls Try.prog 33 #[intsV n W L (.slice a m c), .int .i64 i] w fun e w' => e = .returned (.tuple #[.int .i64 0, .int .i64 13]) ∧ Below w.heap.size w w' := by
  unfold intsV
  by_cases h0 : i < 0
  · clear hi
    go_enter Try.func33, Try.ntmps33
    go_wp2
    go_ret2
    exact ⟨rfl, (Below.refl _ _).alloc (Nat.le_refl _) _⟩
  · have hi : (n : Int) ≤ i := by omega
    go_enter Try.func33, Try.ntmps33
    go_wp2
    go_ret2
    exact ⟨rfl, (Below.refl _ _).alloc (Nat.le_refl _) _⟩

/-- Number i of a row; -1, if there is none. -/
def atI (xs : List Int) (i : Int) : Int := if 0 ≤ i ∧ i < xs.length then xs.getD i.toNat 0 else -1

/-- What a row of numbers is in memory. -/
structure IRow (w : World) (n W L : Nat) (a : Option Addr) (m c : Nat) (xs : List Int) : Prop where
  row : RowAt w (.slice a m c) (rowB xs W)
  len : xs.length = n
  mul : n * W = L
  fit : Fits xs W
  hW : W ≤ 62
  hn : n ≤ 10000000

theorem IRow.lb {w : World} {n W L : Nat} {a : Option Addr} {m c : Nat} {xs : List Int} (h : IRow w n W L a m c xs) : L ≤ 1000000000 := by
  rw [← h.mul]
  calc n * W ≤ 10000000 * 62 := Nat.mul_le_mul h.hn h.hW
    _ ≤ 1000000000 := by decide

theorem IRow.kept {w w' : World} {n W L : Nat} {a : Option Addr} {m c : Nat} {xs : List Int} (h : IRow w n W L a m c xs) (hb : Below w.heap.size w w') : IRow w' n W L a m c xs :=
  { h with row := h.row.kept hb }

end Go.Proofs.Ytfhlcclbjagdmaa

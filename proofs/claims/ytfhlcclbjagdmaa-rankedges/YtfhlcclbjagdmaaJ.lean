/- The contract of put: bits put behind a builder's. -/
import Derived.Test.YtfhlcclbjagdmaaI
namespace Go.Proofs.Ytfhlcclbjagdmaa
open Go.RowKit
open M

theorem num_take (l : List Bool) (n : Nat) (h : n ≤ l.length) : num (l.take n) = num l % 2 ^ n ∧ num (l.drop n) = num l / 2 ^ n := by
  have e := num_append (l.take n) (l.drop n)
  rw [List.take_append_drop, List.length_take, Nat.min_eq_left h] at e
  have h1 := num_lt (l.take n)
  rw [List.length_take, Nat.min_eq_left h] at h1
  have hp : 0 < 2 ^ n := Nat.pow_pos (by decide)
  rw [e]
  constructor
  · rw [Nat.add_mul_mod_self_left, Nat.mod_eq_of_lt h1]
  · rw [Nat.add_mul_div_left _ _ hp, Nat.div_eq_of_lt h1, Nat.zero_add]

/-- All that was there is as it was, but for blocks of which X says so. -/
structure Kp (X : Nat → Prop) (w w' : World) : Prop where
  os : w'.os = w.os
  tape : w'.tape = w.tape
  output : w'.output = w.output
  size : w.heap.size ≤ w'.heap.size
  block : ∀ k, k < w.heap.size → ¬ X k → w'.heap[k]? = w.heap[k]?

theorem Kp.refl (X : Nat → Prop) (w : World) : Kp X w w := ⟨rfl, rfl, rfl, Nat.le_refl _, fun _ _ _ => rfl⟩
theorem Kp.drew {X : Nat → Prop} {a w : World} (h : Kp X a w) : Kp X a w.drew := ⟨h.os, h.tape, h.output, h.size, h.block⟩
theorem Kp.trans {X : Nat → Prop} {a b c : World} (h : Kp X a b) (k : Kp X b c) : Kp X a c :=
  ⟨k.os.trans h.os, k.tape.trans h.tape, k.output.trans h.output, Nat.le_trans h.size k.size, fun i hi hx => (k.block i (Nat.lt_of_lt_of_le hi h.size) hx).trans (h.block i hi hx)⟩
theorem Kp.below {X : Nat → Prop} {a b c : World} (h : Kp X a b) (k : Below b.heap.size b c) : Kp X a c :=
  ⟨k.os.trans h.os, k.tape.trans h.tape, k.output.trans h.output, Nat.le_trans h.size k.size, fun i hi hx => (k.block i (Nat.lt_of_lt_of_le hi h.size)).trans (h.block i hi hx)⟩
theorem Kp.alloc {X : Nat → Prop} {a w : World} (h : Kp X a w) (o : Obj) : Kp X a (w.alloc o) := h.below ((Below.refl _ _).alloc (Nat.le_refl _) _)
theorem Kp.setCell {X : Nat → Prop} {a w : World} (h : Kp X a w) {p : Addr} (hp : X p.block ∨ a.heap.size ≤ p.block) (u : Value) : Kp X a (w.setCell p u) :=
  ⟨h.os, h.tape, h.output, by simpa using h.size, fun k hk hx => by
    rw [Below.heap_setCell _ _ _ _ (by rintro rfl; rcases hp with hp | hp; exact hx hp; omega)]; exact h.block k hk hx⟩
theorem Kp.grown {X : Nat → Prop} {a w w' : World} {row : Option Nat} (h : Kp X a w) (hg : w.grownBy w' row) (hr : ∀ k, row = some k → k < a.heap.size → X k) : Kp X a w' :=
  ⟨hg.os.trans h.os, hg.tape.trans h.tape, hg.output.trans h.output, Nat.le_trans h.size hg.size, fun k hk hx => by
    rw [hg.block k (Nat.lt_of_lt_of_le hk h.size) (fun e => hx (hr k e.symm hk))]; exact h.block k hk hx⟩
theorem Kp.cell {X : Nat → Prop} {w w' : World} (h : Kp X w w') {p : Addr} (hp : p.block < w.heap.size) (hx : ¬ X p.block) : w'.cell? p = w.cell? p := World.cell?_of_block (w := w) (h.block p.block hp hx)
theorem Kp.frozen {X : Nat → Prop} {w w' : World} (h : Kp X w w') {p : Addr} (hp : p.block < w.heap.size) (hx : ¬ X p.block) : w'.frozen? p = w.frozen? p := World.frozen?_of_block (w := w) (h.block p.block hp hx)

set_option maxHeartbeats 1000000 in
theorem put1_any (wb nb pb g m cap p n q : Nat) (x y P R : Int) (w : World) (hw : w.cell? ⟨wb, 0, none⟩ = some (.pointer (some ⟨pb, 0, none⟩))) (hs : w.cell? ⟨pb, 1, none⟩ = some (.slice (some ⟨g, 0, none⟩) m cap))
    (hy : w.cell? ⟨g, p, none⟩ = some (.int .u64 y)) (hyz : w.frozen? ⟨g, p, none⟩ = false) (hx : w.cell? ⟨nb, 0, none⟩ = some (.int .u64 x)) (hxz : w.frozen? ⟨nb, 0, none⟩ = false) (hne : g ≠ nb)
    (hp : p < m) (hq : q < 64) (hn : n ≤ 64) 
    (hv : bits .and .u64 x (((2 ^ n - 1 : Nat) : Int)) = P) (hv2 : bits .or .u64 y (IntKind.u64.wrap (P * 2 ^ q)) = R) :
    Calls Try.prog 55 #[.int .i64 (p : Int), .int .i64 (q : Int), .int .i64 (n : Int), .pointer (some ⟨wb, 0, none⟩), .pointer (some ⟨nb, 0, none⟩)] w fun e w' => e = .returned (.tuple #[]) ∧
      w' = ((w.drew.setCell ⟨g, p, none⟩ (.int .u64 R)).setCell ⟨nb, 0, none⟩ (.int .u64 (x / 2 ^ n))) := by
  have HV := Lib.hid hv
  have HV2 := Lib.hid hv2
  clear hv hv2
  have q3 : (p : Int) < (m : Int) := by omega
  have q4 : (0 : Int) ≤ (p : Int) := by omega
  go_enter Try.func55, Try.ntmps55
  go_wp2
  go_still_tail 15, mixed
  still_call (low_still (n : Int) _ (by omega) (by omega))
  rw [Int.toNat_natCast]
  repeat still_step
  refine wpStill_nil ?_
  go_wp2
  go_end0
  rw [HV.out, HV2.out]
  exact ⟨rfl, rfl⟩

end Go.Proofs.Ytfhlcclbjagdmaa
